import PyProof.Rows.All
import Wide.All
import OpenK.AllK
import Wide.FinOn
import PyProof.WalkInts
import PyProof.MinMaxWalk
import PyProof.ReprReads
import PyProof.ReprRoads
import PyProof.Meets
import PyProof.FitsInt
import HandS.ForMost
import HandS.EndBits
import HandS.SortKw
import HandS.TupMul
import HandS.WideBits
import KE.GoesEnum
import HandS.Iter
import HandS.Walk
import HandS.IsInst
import HandS.CallLocal
import HandS.Zip
import HandS.TupAny
import HandS.Star
import HandS.Defaults
import HandS.TryOnly
import PyProof.ReprLen
import PyProof.Rows.StrJoinRep
import HandS.WordsExc
import HandS.Small
import HandS.CallSlots
import HandS.NoneIn
import HandS.Flow
import HandS.Style
import HandS.Gcd
import HandS.SortInts
import PySem.Challenge.RW_ridgespans_k08_rows_in_spans
set_option Elab.async false
set_option linter.all false
set_option maxRecDepth 100000
set_option maxHeartbeats 4000000
namespace PySem
section
variable {prog : Program} {w : World} {A : Around} {R : Result → Shared → Prop} {I : Addr} {fp wr : List Addr} {n : Nat} {P : Nat → Value → Prop} {St : Nat → Heap → Prop}

theorem k_max_loop_kw {kw : List (Str × Value)} (W : Walks prog w A.in1 I fp wr n P St) (bt : Nat → Nat → Bool) (hcmp : CmpOf prog w A.in1 .Gt P bt) (S : Addr) (hSf : S ∉ fp) :
    ∀ (k j : Nat) (s : Shared) (vb : Value) (c : Nat), n - (j + 1) = k → j + 1 ≤ n → St (j + 1) s.heap → P (argBest bt j) vb →
    s.heap.get? S = some { cls := .type "list", dict := none, data := .seq #[vb, vb] c, slots := #[] } →
    (∀ v h' tk, P (argBest bt (n - 1)) v → (∀ b o, b ∉ wr → b ≠ S → s.heap.get? b = some o → h'.get? b = some o) → R (.ok (.ret v)) { s with heap := h', toks := tk }) →
    codeAny (model prog w) A (.builtin "max.loop" ⟨[.ref I, .none, .ref S], kw⟩) R s := by
  have hSw : S ∉ wr := fun h => hSf (W.sub _ h)
  have hname : (toString "max" ++ toString ".loop" : String) = "max.loop" := by decide
  intro k
  induction k with
  | zero =>
    intro j s vb c hk hj hst hPb hS hR
    have hin : j + 1 = n := by omega
    refine codeAny_builtin F.entry_max_loop ?_
    rw [Around.under_plainId F.plain_max_loop _]
    show wpAny _ A.in1 (seqItems? (.ref S) >>= _) _ _ s
    refine wpAny_bind (wpAny_seqItems hS rfl ?_)
    show wpAny _ A.in1 (tryCatch (pyNext (.ref I)) _ >>= _) _ _ s
    refine wpAny_bind (wpAny_tryCatch (W.done s _ _ (hin ▸ hst) fun h' tk hk' => ?_))
    have hS' := hk' S _ hSw hS
    show wpAny _ A.in1 (updateSeq S (fun _ => #[]) >>= _) _ _ _
    refine wpAny_bind ?_
    refine wpAny_updateSeq hS' rfl (wpAny_bind (wpAny_letGo (wpAny_pure ?_)))
    refine hR vb _ tk (by rw [← hin]; exact hPb) fun b o hbw hbS e => (Heap.get?_update_other _ _ (Ne.symm hbS)).trans (hk' b o hbw e)
  | succ k ih =>
    intro j s vb c hk hj hst hPb hS hR
    have hlt : j + 1 < n := by omega
    refine codeAny_builtin F.entry_max_loop ?_
    rw [Around.under_plainId F.plain_max_loop _]
    show wpAny _ A.in1 (seqItems? (.ref S) >>= _) _ _ s
    refine wpAny_bind (wpAny_seqItems hS rfl ?_)
    show wpAny _ A.in1 (tryCatch (pyNext (.ref I)) _ >>= _) _ _ s
    refine wpAny_bind (wpAny_tryCatch (W.item (j + 1) s _ _ hlt hst fun v h' tk hP hst' hk' => ?_))
    have hS' := hk' S _ hSw hS
    show wpAny _ A.in1 (tryCatch (holding [v, v] (richCompare .Gt v vb >>= _)) _ >>= _) _ _ _
    refine wpAny_bind (wpAny_tryCatch (wpAny_holding (wpAny_bind (hcmp (j + 1) (argBest bt j) v vb _ _ _ hP hPb ?_))))
    refine wpAny_bind (wpAny_holding (wpAny_truthy_bool ?_))
    refine wpAny_bind (wpAny_letGo (wpAny_pure ?_))
    cases hb : bt (j + 1) (argBest bt j) with
    | true =>
      simp only [if_true]
      refine wpAny_bind ?_
      refine wpAny_updateSeq hS' rfl (wpAny_bind (wpAny_letGo ?_))
      rw [hname]
      refine wpAny_pure ⟨plainId_quiet F.plain_max_loop _, ih (j + 1) _ v _ (by omega) hlt (W.frame _ _ _ hst' fun b hbf o e => ?_) (by simp only [argBest, hb, if_true]; exact hP) (Heap.get?_update_self _ hS' rfl)
        fun v' h'' tk'' hP' hk'' => ?_⟩
      · exact (Heap.get?_update_other _ _ (fun h : S = b => hSf (by rw [h]; exact hbf))).trans e
      · exact hR v' h'' tk'' hP' fun b o hbw hbS e => hk'' b o hbw hbS ((Heap.get?_update_other _ _ (Ne.symm hbS)).trans (hk' b o hbw e))
    | false =>
      simp only [Bool.false_eq_true, if_false]
      refine wpAny_bind (wpAny_letGo ?_)
      rw [hname]
      refine wpAny_pure ⟨plainId_quiet F.plain_max_loop _, ih (j + 1) _ vb c (by omega) hlt hst' (by simp only [argBest, hb, Bool.false_eq_true, if_false]; exact hPb) hS' fun v' h'' tk'' hP' hk'' => ?_⟩
      exact hR v' h'' tk'' hP' fun b o hbw hbS e => hk'' b o hbw hbS (hk' b o hbw e)

theorem k_max_first_kw {kw : List (Str × Value)} (W : Walks prog w A.in1 I fp wr n P St) (bt : Nat → Nat → Bool) (hcmp : CmpOf prog w A.in1 .Gt P bt) (S : Addr) (hSf : S ∉ fp) (hn : 0 < n) {s : Shared} {c : Nat} (hst : St 0 s.heap)
    (hS : s.heap.get? S = some { cls := .type "list", dict := none, data := .seq #[] c, slots := #[] })
    (hR : ∀ v h' tk, P (argBest bt (n - 1)) v → (∀ b o, b ∉ wr → b ≠ S → s.heap.get? b = some o → h'.get? b = some o) → R (.ok (.ret v)) { s with heap := h', toks := tk }) :
    codeAny (model prog w) A (.builtin "max.loop" ⟨[.ref I, .none, .ref S], kw⟩) R s := by
  have hSw : S ∉ wr := fun h => hSf (W.sub _ h)
  have hname : (toString "max" ++ toString ".loop" : String) = "max.loop" := by decide
  refine codeAny_builtin F.entry_max_loop ?_
  rw [Around.under_plainId F.plain_max_loop _]
  show wpAny _ A.in1 (seqItems? (.ref S) >>= _) _ _ s
  refine wpAny_bind (wpAny_seqItems hS rfl ?_)
  show wpAny _ A.in1 (tryCatch (pyNext (.ref I)) _ >>= _) _ _ s
  refine wpAny_bind (wpAny_tryCatch (W.item 0 s _ _ hn hst fun v h' tk hP hst' hk' => ?_))
  have hS' := hk' S _ hSw hS
  show wpAny _ A.in1 (updateSeq S (fun _ => #[v, v]) >>= _) _ _ _
  refine wpAny_bind ?_
  refine wpAny_updateSeq hS' rfl ?_
  rw [hname]
  refine wpAny_pure ⟨plainId_quiet F.plain_max_loop _, k_max_loop_kw W bt hcmp S hSf _ 0 _ v _ rfl hn (W.frame _ _ _ hst' fun b hbf o e => ?_) hP (Heap.get?_update_self _ hS' rfl) fun v' h'' tk'' hP' hk'' => ?_⟩
  · exact (Heap.get?_update_other _ _ (fun h : S = b => hSf (by rw [h]; exact hbf))).trans e
  · exact hR v' h'' tk'' hP' fun b o hbw hbS e => hk'' b o hbw hbS ((Heap.get?_update_other _ _ (Ne.symm hbS)).trans (hk' b o hbw e))

/-- the empty one: the default -/
theorem k_max_empty_kw {x : Str} {d : Value} {kw : List (Str × Value)} (W : Walks prog w A.in1 I fp wr 0 P St) (S : Addr) (hSf : S ∉ fp) {s : Shared} {c : Nat} (hst : St 0 s.heap)
    (hS : s.heap.get? S = some { cls := .type "list", dict := none, data := .seq #[] c, slots := #[] })
    (hR : ∀ h' tk, (∀ b o, b ∉ wr → b ≠ S → s.heap.get? b = some o → h'.get? b = some o) → R (.ok (.ret d)) { s with heap := h', toks := tk }) :
    codeAny (model prog w) A (.builtin "max.loop" ⟨[.ref I, .none, .ref S], (x, d) :: kw⟩) R s := by
  have hSw : S ∉ wr := fun h => hSf (W.sub _ h)
  refine codeAny_builtin F.entry_max_loop ?_
  rw [Around.under_plainId F.plain_max_loop _]
  show wpAny _ A.in1 (seqItems? (.ref S) >>= _) _ _ s
  refine wpAny_bind (wpAny_seqItems hS rfl ?_)
  show wpAny _ A.in1 (tryCatch (pyNext (.ref I)) _ >>= _) _ _ s
  refine wpAny_bind (wpAny_tryCatch (W.done s _ _ hst fun h' tk hk' => ?_))
  show wpAny _ A.in1 (rule _ >>= _) _ _ _
  refine wpAny_bind (wpAny_rule ?_)
  exact wpAny_pure (hR h' tk fun b o hbw _ e => hk' b o hbw e)
end
namespace F
theorem args_max_default (a v : Value) : argsOk "max" ⟨[a], [(Str.ofString "default", v)]⟩ := by unfold argsOk; kernel_rfl
end F
section
variable {prog : Program} {w : World} {A : Around} {E : Value → Shared → Prop} {s : Shared}

theorem call_function_tree_kw {id : String} {b : Builtin} {args : List Value} {kw : List (Str × Value)} {Q : Value → Shared → Prop} (hk : builtinKind id = none) (hp : plainId id = true)
    (hb : entryFor table id = some b) (ha : argsOk id ⟨args, kw⟩)
    (hc : wpAny (model prog w) A.in1 (b ⟨args, kw⟩) (fun fin s' => match fin with
      | .done f => (match (Except.ok f : Result) with | .ok (.ret v) => Q v s' | .ok _ => False | .error e => E e s')
      | .again c' => c'.quiet = true ∧ codeAny (model prog w) A c' (fun r s' => match r with | .ok (.ret v) => Q v s' | .ok _ => False | .error e => E e s') s') E s) :
    wpAny (model prog w) A (call (.builtin id) args kw) Q E s := by
  refine wpAny_call (codeAny_call_builtin hp hb ?_)
  simp only [checkBuiltinCall, hk]
  cases hsig : Manifest.signature? id with
  | none => exact wpAny_pure hc
  | some sig =>
    simp only [argsOk, hsig] at ha
    have h2 : Bind.checkArgs id sig ⟨args, kw⟩ = pure () := ha
    show wpAny _ A.in1 (Bind.checkArgs id sig ⟨args, kw⟩) _ _ s
    rw [h2]; exact wpAny_pure hc

theorem call_max_default {x d : Value} {Q : Value → Shared → Prop}
    (h : wpAny (model prog w) A.in1 (pyIter x) (fun it s₂ => ∃ I fp wr n P St bt, it = .ref I ∧ Walks prog w A.in1 I fp wr n P St ∧ St 0 s₂.heap ∧ (∀ b ∈ fp, b < s₂.heap.objs.size) ∧ CmpOf prog w A.in1 .Gt P bt ∧
      ∀ v h' tk, (0 < n → P (argBest bt (n - 1)) v) → (n = 0 → v = d) → (∀ b o, b ∉ wr → s₂.heap.get? b = some o → h'.get? b = some o) → Q v { s₂ with heap := h', toks := tk }) E s) :
    wpAny (model prog w) A (call (.builtin "max") [x] [(Str.ofString "default", d)]) Q E s := by
  have hname : (toString "max" ++ toString ".loop" : String) = "max.loop" := by decide
  refine call_function_tree_kw F.kind_max F.plain_max F.entry_max (F.args_max_default _ _) ?_
  show wpAny _ A.in1 (Builtin.Builtins.bindParams "max" ["key", "default"] 0 ⟨[], [(Str.ofString "default", d)]⟩ >>= _) _ _ s
  refine wpAny_bind (wpAny_of_eq (show Builtin.Builtins.bindParams "max" ["key", "default"] 0 ⟨[], [(Str.ofString "default", d)]⟩ = pure [none, some d] from rfl) ?_)
  refine wpAny_bind (wpAny_pure ?_)
  refine wpAny_bind (wpAny_mono h (fun it s₂ h₂ => ?_) fun _ _ e => e)
  obtain ⟨I, fp, wr, n, P, St, bt, rfl, W, hst, hfp, hcmp, hQ⟩ := h₂
  refine wpAny_bind (wpAny_newObj_type ?_)
  have hSf : s₂.heap.objs.size ∉ fp := fun hm => Nat.lt_irrefl _ (hfp _ hm)
  rw [hname]
  cases n with
  | zero =>
    refine wpAny_pure ⟨plainId_quiet F.plain_max_loop _, k_max_empty_kw W s₂.heap.objs.size hSf (W.frame _ _ _ hst fun b _ o e => Heap.get?_push_of_some _ e) (Heap.get?_push_size _ rfl) fun h' tk hk => ?_⟩
    exact hQ d h' tk (fun q => absurd q (Nat.lt_irrefl _)) (fun _ => rfl) fun b o hbw e => hk b o hbw (Nat.ne_of_lt (Heap.lt_size e)) (Heap.get?_push_of_some _ e)
  | succ n =>
    refine wpAny_pure ⟨plainId_quiet F.plain_max_loop _, k_max_first_kw W bt hcmp s₂.heap.objs.size hSf (Nat.succ_pos n) (W.frame _ _ _ hst fun b _ o e => Heap.get?_push_of_some _ e) (Heap.get?_push_size _ rfl) fun v h' tk hP hk => ?_⟩
    exact hQ v h' tk (fun _ => hP) (fun q => Nat.noConfusion q) fun b o hbw e => hk b o hbw (Nat.ne_of_lt (Heap.lt_size e)) (Heap.get?_push_of_some _ e)

theorem max_default_intList {l : Addr} {xs : Array (Int × Tok)} {d : Value} {Q : Value → Shared → Prop} (hh : A.handled = none) (hl : s.heap.IsList l (intItems xs))
    (h : ∀ v h' tk, (0 < xs.size → (intItems xs)[argBest (fun i j => decide (numAt xs i > numAt xs j)) (xs.size - 1)]? = some v) → (xs.size = 0 → v = d) → (∀ b o, s.heap.get? b = some o → h'.get? b = some o) → Q v { s with heap := h', toks := tk }) :
    wpAny (model prog w) A (call (.builtin "max") [.ref l] [(Str.ofString "default", d)]) Q E s := by
  refine call_max_default (iter_intList hl fun s₂ e st hfp hlI => ?_)
  subst e
  refine ⟨_, _, _, _, _, _, _, rfl, Walks.list (A := A.in1) hh _ l hlI (intItems xs), st, hfp, CmpOf.ints_gt (numAt xs) (fun _ _ => intItems_at), fun v h' tk hP h0 hk => ?_⟩
  exact h v h' tk (fun q => by simpa [intItems] using hP (by simpa [intItems] using q)) (fun q => h0 (by simpa [intItems] using q)) (old_kept hk)
end
end PySem

namespace PySem
/-! repr of data whose ints have at most 12,900 bits, where the statics keep the usual limit -/

namespace RW
mutual
def wide : PyData → Bool
  | .none | .bool _ | .str _ => true
  | .int i => decide (i.natAbs.log2 < 12900)
  | .list xs | .tuple xs => wideAll xs
  | .dict _ => false
def wideAll : List PyData → Bool
  | [] => true
  | x :: xs => wide x && wideAll xs
end

def StatAt (h : Heap) : Prop := ∃ mc, h.Ns cStatics mc ∧ mc (Str.ofString "sys.int_max_str_digits") = none
theorem StatAt.keep {h h' : Heap} (S : StatAt h) (k : ∀ b o, h.get? b = some o → h'.get? b = some o) : StatAt h' := by
  obtain ⟨mc, n, e⟩ := S
  obtain ⟨o, es, ep, a, b⟩ := n
  exact ⟨mc, ⟨o, es, ep, k _ _ a, b⟩, e⟩

section
variable {prog : Program} {w : World} {A : Around} {E : Value → Shared → Prop} {s : Shared}

theorem odl_wide {M : Model} {a : Int} {Q : Option Nat → Shared → Prop} (S : StatAt s.heap) (ha : a.natAbs.log2 < 12900) (h : Q none s) : wpAny M A (Builtin.overDigitLimit? a) Q E s := by
  unfold Builtin.overDigitLimit?
  by_cases h1 : a.natAbs.log2 < 1920
  · rw [if_pos h1]
    exact wpAny_pure h
  · rw [if_neg h1]
    obtain ⟨mc, n, e⟩ := S
    have hn : wpAny M A Builtin.intMaxStrDigits (fun m s' => m = 4300 ∧ s' = s) E s := by
      unfold Builtin.intMaxStrDigits
      refine wpAny_bind (wpAny_nsGet n ?_)
      rw [show mc "sys.int_max_str_digits" = none from e]
      exact wpAny_pure ⟨rfl, rfl⟩
    refine wpAny_bind (wpAny_mono hn (fun m s' q => ?_) fun _ _ x => x)
    obtain ⟨rfl, rfl⟩ := q
    have h2 : ¬ (a.natAbs.log2 / 30 + 1 > 1000) := by omega
    simp only [if_neg h2]
    have h3 : ((4300 : Nat) == 0 || decide (a.natAbs.log2 < 3 * 4300)) = true := by
      rw [decide_eq_true (show a.natAbs.log2 < 3 * 4300 by omega)]
      rfl
    first
      | (rw [if_pos h3]; exact wpAny_pure h)
      | (simp only [h3]; exact wpAny_pure h)

theorem int_fits {a : Int} (ha : a.natAbs.log2 < 12900) : (Str.ofString (toString a)).length ≤ sizeLine := by
  have e := int_text_length_le (k := 12900) (by decide) ha
  rw [ofString_length, sizeLine_eq]; omega

theorem meets_int_repr (a : Int) (t : Tok) (ha : a.natAbs.log2 < 12900) : Meets (Builtin.«int.__repr__» ⟨[.int a t], []⟩) (fun _ R s => StatAt s.heap ∧ ∀ u, R (.ok (.ret (.str (toString a) u))) { s with toks := s.toks + 1 }) :=
  .of_wp fun prog w A R s h => by
    obtain ⟨S, h⟩ := h
    unfold Builtin.«int.__repr__»
    refine wpAny_bind (m := Builtin.Int.intSlot0 "__repr__" _) (wpAny_pure ?_)
    refine wpAny_bind (odl_wide S ha ?_)
    show wpAny _ _ (retStr _) _ _ _
    unfold retStr
    refine wpAny_bind (wpAny_mkStr ?_ (int_fits ha))
    exact wpAny_pure ⟨_, rfl, h _⟩
theorem reprObj_int {a : Int} {t : Tok} {Q : Value → Shared → Prop} (hu : A.units < cLine) (S : StatAt s.heap) (ha : a.natAbs.log2 < 12900) (h : ∀ u, Q (.str (toString a) u) { s with toks := s.toks + 1 }) : wpAny (model prog w) A (pyReprObj (.int a t)) Q E s :=
  wpAny_pyReprObj_slot hu (typeIs_int s a t) F.slot_int_repr.toG (call_meets F.slot_int_repr (typeIs_int s a t) F.entry_int_repr (F.args_int_repr_1 _) (meets_int_repr a t ha) ⟨S, fun u => ⟨_, _, rfl, h u⟩⟩)

theorem rk_int {h₀ : Heap} {a : Int} {t : Tok} (S : StatAt h₀) (ha : a.natAbs.log2 < 12900) (d : Nat) : ReprK prog w [] h₀ d (.int a t) (toString a) := by
  intro base hb A g E s Q hg hcl hu hk0 hQ
  have hb' : base ≤ sizeLine := by omega
  rw [pyReprUnder_leaf (v := .int a t) hb' (fun _ e => nomatch e)]
  unfold pyRepr
  exact wpAny_bind (reprObj_int (by omega) (S.keep hk0) ha fun u => wpAny_pure (hQ s.heap _ fun _ _ e => e))

mutual
theorem rk_of {h₀ : Heap} (S : StatAt h₀) : ∀ {v : Value} {d : PyData} {as : List Addr}, Reads h₀ v d as → wide d = true → d.shown.length ≤ sizeLine → ∃ bs, ReadAtMost h₀ d.depth bs ∧ ReprK prog w bs h₀ d.depth v d.shown
  | _, _, _, .none, _, _ => ⟨[], (fun _ h => nomatch h), by simp only [PyData.shown]; exact .of_is ReprIs.none _ _ _⟩
  | _, _, _, .bool b, _, _ => ⟨[], (fun _ h => nomatch h), by simp only [PyData.shown]; exact .of_is (ReprIs.bool b) _ _ _⟩
  | _, _, _, .int i t, hs, _ => ⟨[], (fun _ h => nomatch h), by simp only [PyData.shown]; exact rk_int S (by simpa [wide] using hs) _⟩
  | _, _, _, .str x t, _, hz => ⟨[], (fun _ h => nomatch h), by simp only [PyData.shown]; exact .of_is (ReprIs.str x t (by simpa only [PyData.shown] using hz)) _ _ _⟩
  | _, _, _, .list (a := a) (vs := vs) (xs := xs) h1 h2 h3 h4, hs, hz => by
    have z1 : (listText (PyData.shownAll xs)).length ≤ sizeLine := by simpa only [PyData.shown] using hz
    obtain ⟨bs, hb, hk⟩ := rkAll_of S h4 (by simpa [wide] using hs) (fun t ht => Nat.le_trans (listText_mem_le ht) z1)
    have r : Reads h₀ (.ref a) (.list xs) _ := .list h1 h2 h3 h4
    have hna : a ∉ bs := not_mem_of_deeper r (by simp only [PyData.depth]; omega) hb
    refine ⟨a :: bs, ReadAtMost.cons r (by simp only [PyData.depth]; omega) hb, ?_⟩
    simp only [PyData.depth, PyData.shown]
    obtain ⟨l⟩ := vs
    cases l with
    | nil =>
      have h5 : ReadsAll h₀ [] xs _ := h4
      cases h5
      simp only [PyData.shownAll, listText_nil]
      exact ReprK.listEmpty h1 h2 h3
    | cons x l => exact ReprK.list h1 h2 h3 hna (by simpa using hk.length_eq) (fun i y e => hk.item i y (by simpa using e))
  | _, _, _, .tuple (a := a) (xs := xs) h1 h2 h3 h4, hs, hz => by
    have z1 : (tupleText (PyData.shownAll xs)).length ≤ sizeLine := by simpa only [PyData.shown] using hz
    obtain ⟨bs, hb, hk⟩ := rkAll_of S h4 (by simpa [wide] using hs) (fun t ht => Nat.le_trans (tupleText_mem_le ht) z1)
    have r : Reads h₀ (.ref a) (.tuple xs) _ := .tuple h1 h2 h3 h4
    have hna : a ∉ bs := not_mem_of_deeper r (by simp only [PyData.depth]; omega) hb
    refine ⟨a :: bs, ReadAtMost.cons r (by simp only [PyData.depth]; omega) hb, ?_⟩
    simp only [PyData.depth, PyData.shown]
    exact ReprK.tuple h1 h2 h3 hna hk
  | _, _, _, .dict .., hs, _ => by simp [wide] at hs
theorem rkAll_of {h₀ : Heap} (S : StatAt h₀) : ∀ {vs : List Value} {ds : List PyData} {as : List Addr}, ReadsAll h₀ vs ds as → wideAll ds = true → (∀ t ∈ PyData.shownAll ds, t.length ≤ sizeLine) →
    ∃ bs, ReadAtMost h₀ (PyData.depthAll ds) bs ∧ ReprAllK prog w bs h₀ (PyData.depthAll ds) vs (PyData.shownAll ds)
  | _, _, _, .nil, _, _ => ⟨[], (fun _ h => nomatch h), by simp only [PyData.shownAll]; exact .nil⟩
  | _, _, _, .cons (d := d) (ds := ds) r rs, hs, hz => by
    have h2 : wide d = true ∧ wideAll ds = true := by simpa [wideAll] using hs
    obtain ⟨b1, hb1, k1⟩ := rk_of S r h2.1 (hz _ (by simp only [PyData.shownAll]; exact List.mem_cons_self ..))
    obtain ⟨b2, hb2, k2⟩ := rkAll_of S rs h2.2 (fun t ht => hz t (by simp only [PyData.shownAll]; exact List.mem_cons_of_mem _ ht))
    refine ⟨b1 ++ b2, (hb1.mono (by simp only [PyData.depthAll]; exact Nat.le_max_left _ _)).append (hb2.mono (by simp only [PyData.depthAll]; exact Nat.le_max_right _ _)), ?_⟩
    simp only [PyData.depthAll, PyData.shownAll]
    exact .cons ((k1.more fun b hb => List.mem_append_left _ hb).level_le (Nat.le_max_left _ _)) (k2.more_le (fun b hb => List.mem_append_right _ hb) (Nat.le_max_right _ _))
end

/-- repr(x) of a list -/
theorem repr_list {a : Addr} {xs : List PyData} {as : List Addr} {Q : Value → Shared → Prop} (S : StatAt s.heap) (r : Reads s.heap (.ref a) (.list xs) as) (hs : wide (.list xs) = true) (hz : (PyData.list xs).shown.length ≤ sizeLine) (hg : A.guards = some []) (hu : A.units + ((PyData.list xs).depth + 1) < cLine)
    (hQ : ∀ h' u tk, (∀ b o, s.heap.get? b = some o → h'.get? b = some o) → Q (.str (PyData.list xs).shown u) { s with heap := h', toks := tk }) : wpAny (model prog w) A (call (.builtin "repr") [.ref a]) Q E s := by
  cases r with
  | list h1 h2 h3 h4 =>
    rename_i o vs n bs0
    have z1 : (listText (PyData.shownAll xs)).length ≤ sizeLine := by simpa only [PyData.shown] using hz
    obtain ⟨bs, hb, hk⟩ := rkAll_of (prog := prog) (w := w) S h4 (by simpa [wide] using hs) (fun t ht => Nat.le_trans (listText_mem_le ht) z1)
    have hna : a ∉ bs := not_mem_of_deeper (.list h1 h2 h3 h4) (by simp only [PyData.depth]; omega) hb
    simp only [PyData.depth] at hu
    simp only [PyData.shown] at hQ
    refine call_repr_slot (by omega) ⟨o, h1, h2⟩ F.slot_list_repr.toG ?_
    obtain ⟨l⟩ := vs
    cases l with
    | nil =>
      have h5 : ReadsAll s.heap [] xs _ := h4
      cases h5
      simp only [PyData.shownAll, listText_nil] at hQ
      exact call_list_repr_empty ⟨o, h1, h2⟩ h1 h3 ⟨_, _, rfl, hQ s.heap _ _ fun _ _ e => e⟩
    | cons x l =>
      exact call_list_reprK h1 h2 h3 hna (by simpa using hk.length_eq) (fun i y e => hk.item i y (by simpa using e)) hg (fun b _ => Clear.nil b) (by show A.units + 1 + _ < _; omega) (fun _ _ e => e) (fun h' u tk hk => ⟨_, _, rfl, hQ h' u tk hk⟩) z1
/-- repr(x) of a tuple -/
theorem repr_tuple {a : Addr} {xs : List PyData} {as : List Addr} {Q : Value → Shared → Prop} (S : StatAt s.heap) (r : Reads s.heap (.ref a) (.tuple xs) as) (hs : wide (.tuple xs) = true) (hz : (PyData.tuple xs).shown.length ≤ sizeLine) (hg : A.guards = some []) (hu : A.units + ((PyData.tuple xs).depth + 1) < cLine)
    (hQ : ∀ h' u tk, (∀ b o, s.heap.get? b = some o → h'.get? b = some o) → Q (.str (PyData.tuple xs).shown u) { s with heap := h', toks := tk }) : wpAny (model prog w) A (call (.builtin "repr") [.ref a]) Q E s := by
  cases r with
  | tuple h1 h2 h3 h4 =>
    rename_i o vs n
    have z1 : (tupleText (PyData.shownAll xs)).length ≤ sizeLine := by simpa only [PyData.shown] using hz
    obtain ⟨bs, hb, hk⟩ := rkAll_of (prog := prog) (w := w) S h4 (by simpa [wide] using hs) (fun t ht => Nat.le_trans (tupleText_mem_le ht) z1)
    have hna : a ∉ bs := not_mem_of_deeper (.tuple h1 h2 h3 h4) (by simp only [PyData.depth]; omega) hb
    simp only [PyData.depth] at hu
    simp only [PyData.shown] at hQ
    refine call_repr_slot (by omega) ⟨o, h1, h2⟩ F.slot_tuple_repr ?_
    exact call_tuple_reprK h1 h2 h3 hna hk hg (fun b _ => Clear.nil b) (by show A.units + 1 + _ < _; omega) (fun _ _ e => e) (fun h' u tk hk => ⟨_, _, rfl, hQ h' u tk hk⟩) z1
end
end RW
end PySem

/-! defs that show data by repr: nothing may be on its way to be shown around them -/
namespace RW
open PySem PySem.Spec PyProof.Rows L2 PySem.RW

theorem deeper_guards {A : Around} {env : Env} (h : A.guards = some []) : (A.deeper env).guards = some [] := by
  first | exact h | (simpa [Around.deeper] using h)

structure FnG (P : Program) (w : World) (K : PySem.W.Frag) (mg : Str → Option Value) (base : Heap) (k : Nat) (f : Addr) (fd : FuncData) (ps : List Str) (sp : Sp) : Prop where
  len : ∀ vs H Q E, sp vs H Q E → vs.length = ps.length
  run : ∀ (A : Around) (outer : List Env) (s : Shared) (H : Hp) (args : Args) (us : List Value) (vs : List V) (Q : VK) (E : XK), A.guards = some [] → Room k A → Env0 P w K mg base A outer s H → BindsTo s fd args (ps.zip us) → Vals vs us → sp vs H Q E →
    codeAny (model P w) A (.call (.ref f) args) (CR CX0 outer P w H s Q E) s

section
variable {P : Program} {w : World} {K : PySem.W.Frag} {mg : Str → Option Value} {base : Heap}
theorem fnG_of {x qual : Str} {st : Stmt} {f : Addr} {fd : FuncData} {N ps : List Str} {k : Nat} {sp : Sp} (F : Fun K x qual st f fd) (S : FnScope N ps (defScope st)) (len : ∀ vs H Q E, sp vs H Q E → vs.length = ps.length)
    (hbody : ∀ (cdv : Value) (A : Around) (outer : List Env) (s : Shared) (H : Hp) (vs : List V) (Q : VK) (E : XK), (A.deeper (envOfC qual (defScope st) s.heap.objs.size f cdv)).guards = some [] → Room k (A.deeper (envOfC qual (defScope st) s.heap.objs.size f cdv)) → sp vs H Q E →
      ∃ t, PSs (cxOf CX0 P w K mg base N qual (defScope st) f cdv A outer s H E).nox (defBody st) t ∧ t { nx := fun _ H' => Q .non H', rt := Q } (start N vs) H) : FnG P w K mg base (k + 1) f fd ps sp := by
  obtain ⟨oc, od, kV, doc, pm, an, cd, ct, osl, rfl, lk, hcd⟩ := F.ex
  refine ⟨len, fun A outer s H args us vs Q E hG hr e0 hb r hsp => ?_⟩
  have hl := len _ _ _ _ hsp
  have KX : K.In s.heap := e0.mod.kin.keeps fun b o e => (e0.bs b o e).1
  have lim : s.heap.NoLimit := e0.mod.nolimit.keeps fun b o e => (e0.bs b o e).1
  have hkind : ∀ y ∈ ps.zip us, (defScope st).names.lookup y.1 = some .local ∨ ((defScope st).names.lookup y.1 = some .cell ∧ ((cellsFrom (s.heap.objs.size + 1) (defScope st).names []).lookup y.1).isSome = true) := fun ⟨n, v⟩ hy => by
    rcases S.par n (List.of_mem_zip hy).1 with q | q
    · exact .inl q
    · exact .inr ⟨q, PySem.W.cellsFrom_some _ _ _ (.inl q)⟩
  refine codeAny_call_function hr.depth (KX _ _ lk) rfl S.co S.gen rfl (PySem.W.codeRec_of KX hcd) (hb _ _ _ _ ?_)
  refine wpAny_newFunctionEnv_cells S.kind hkind fun env he s1 x => ?_
  subst he
  refine ⟨lim.keeps x.toInCall.keep, codeAny_func ?_⟩
  obtain ⟨t, ht0, hq⟩ := hbody cd A outer s H vs Q E (deeper_guards hG) (hr.deeper _) hsp
  have ht := ht0.nox
  have I : Inv (cxOf CX0 P w K mg base N qual (defScope st) f cd A outer s H E) [] (start N vs) H s1 := inv_start S hr.hd e0 hl r x
  refine wpAny_mono (ht.run [] s1 (start N vs) H _ I hq) (fun fl s' hs => ?_) fun e s' hs => hs
  have fin : ∀ {σ' : L2.St} {H' : Hp} {v : V} {u : Value}, Inv (cxOf CX0 P w K mg base N qual (defScope st) f cd A outer s H E) [] σ' H' s' → RelV v u → Q v H' → CE outer P w H s Q u s' :=
    fun {σ' H' v u} J rv q => ⟨v, H', J.os, J.bare, J.base, J.hok, rv, q⟩
  cases fl with
  | ret u =>
    obtain ⟨v, σ', H', J, rv, q⟩ := hs
    exact fin J rv q
  | next =>
    obtain ⟨σ', H', J, q⟩ := hs
    exact fin (v := V.non) (u := Value.none) J rfl q
  | brk =>
    obtain ⟨_, _, _, q⟩ := hs
    exact False.elim q
  | cont =>
    obtain ⟨_, _, _, q⟩ := hs
    exact False.elim q
end

section
variable {X : Cx} {k : Nat} {f : Addr} {fd : FuncData} {ps : List Str} {sp : Sp} {E : XK} {x : Str} {p pos : Pos} {e : Expr} {es : List Expr} {t : TA}
theorem runG {pins : List (Addr × Obj)} {σ : L2.St} {H : Hp} {s : Shared} {Q : VK} {us : List Value} {vs : List V} (F : FnG X.prog X.w X.K X.mg X.base k f fd ps sp) (hG : X.A.guards = some []) (hr : Room k X.A) (hb : Binds X.K fd ps [])
    (I : Inv X pins σ H s) (r : Vals vs us) (h : sp vs H Q E) : wpAny (model X.prog X.w) X.A (call (.ref f) us) (EP X pins σ Q) X.xe s := by
  have hl : (us ++ []).length = ps.length := by rw [List.append_nil, ← r.length]; exact F.len _ _ _ _ h
  have hbt := hb s us I.kIn hl
  rw [List.append_nil] at hbt
  refine wpAny_call (codeAny_mono (F.run X.A X.stack s H ⟨us, []⟩ us vs Q E hG hr I.env0 hbt r h) fun r s' hq => ?_)
  cases r with
  | error e => exact False.elim hq
  | ok fl =>
    cases fl with
    | ret u => exact I.after hq
    | next => exact False.elim hq
    | brk => exact False.elim hq
    | cont => exact False.elim hq
def tCallG (sp : Sp) (E : XK) (t : TA) : TE := fun σ H Q => t σ H fun vs H1 => sp vs H1 Q E
theorem pe_callG (F : FnG X.prog X.w X.K X.mg X.base k f fd ps sp) (hG : X.A.guards = some []) (hr : Room k X.A) (hg : Gl X x) (hm : X.mg x = some (.ref f)) (hk : PySem.W.keepIn X.K (.ref f) = true) (hb : Binds X.K fd ps [])
    (ha : PA X (e :: es) t) (hdb : (x == ("__debug__" : Str)) = false := by decide) (he : starEach (e :: es) X.env = (false, eval e X.env) :: starEach es X.env := by rfl) (hpl : (backTo pos (starEach es X.env)).any (·.1) = false := by rfl) :
    PE X (.Call (.Name x p) (e :: es) [] pos) (tCallG sp E t) := by
  refine ⟨fun pins s σ H Q I h => ?_⟩
  refine wpAny_Call_Name_kw (ld_glob I hg hm ?_ hdb)
  refine PySem.W.callWith_K (h₀ := X.base) I.ok.mod.kin hk (thn (ha.run pos pins s σ H _ I h) fun us s1 ⟨vs, H1, I1, r, q⟩ => ⟨I1.kIn, ?_⟩) he hpl
  exact runG F hG hr hb I1 r q

/-- repr(x) of a list -/
def rRepr (K : PySem.W.Frag) : List V → Hp → VK → Prop := fun vs H Q => ∃ (a : Addr) (ds : List PyData), vs = [.ref a] ∧ Dp K H (.ref a) (.list ds) ∧ wide (.list ds) = true ∧ (PyData.list ds).shown.length ≤ sizeLine ∧ (PyData.list ds).depth ≤ 50 ∧ Q (.str (PyData.list ds).shown) H
theorem call_reprW (hG : X.A.guards = some []) (hr : X.A.units + 64 < cLine) (S : StatAt X.base) : CallR X (.builtin "repr") (rRepr X.K) := by
  intro pins s σ H vs us Q I r h
  obtain ⟨a, ds, rfl, hd, hw, hz, hdp, q⟩ := h
  obtain ⟨u, rfl, rv⟩ := vals1 r
  obtain rfl : u = Value.ref a := rv
  obtain ⟨as, rd⟩ := Dp.reads I _ _ _ hd rfl
  exact repr_list (S.keep fun b o e => I.bk b o e) rd hw hz hG (by omega) fun h' u tk hk => ⟨.str _, H, I.kept hk, ⟨_, rfl⟩, q⟩

/-- max(xs, default=None) of ints -/
def rMaxD (K : PySem.W.Frag) : List V → List V → Hp → VK → Prop := fun vs zs H Q => ∃ (a : Addr) (ns : List Int) (d : V), vs = [.ref a] ∧ zs = [d] ∧ SqL K H a (ns.map V.int) ∧ (ns = [] → Q d H) ∧ (∀ m, m ∈ ns → (∀ y, y ∈ ns → y ≤ m) → Q (.int m) H)
end
section
variable {prog : Program} {w : World} {A : Around} {E : Value → Shared → Prop} {s : Shared}
theorem maxD_raw {l : Addr} {its : List Value} {ns : List Int} {d : Value} {Q : Value → Shared → Prop} (hh : A.handled = none) (hl : s.heap.IsList l its.toArray) (hi : IntsAre its ns)
    (h0 : ns = [] → ∀ h' tk, (∀ b o, s.heap.get? b = some o → h'.get? b = some o) → Q d { s with heap := h', toks := tk })
    (h : ∀ h' tk M t', (∀ b o, s.heap.get? b = some o → h'.get? b = some o) → M ∈ ns → (∀ a, a ∈ ns → a ≤ M) → Q (.int M t') { s with heap := h', toks := tk }) : wpAny (model prog w) A (call (.builtin "max") [.ref l] [(Str.ofString "default", d)]) Q E s := by
  obtain ⟨xs, e⟩ := hi.allInts.items
  have hn : numsOf (intItems xs).toList = ns := by rw [← e]; exact hi.numsOf
  rw [nums_intItems] at hn
  subst hn
  rw [e] at hl
  refine PySem.max_default_intList hh hl fun v h' tk hv hd hk => ?_
  by_cases hz : xs.size = 0
  · obtain rfl := hd hz
    exact h0 (List.map_eq_nil_iff.mpr (List.eq_nil_of_length_eq_zero (by simpa using hz))) h' tk hk
  · have hsz : 0 < xs.size := Nat.pos_of_ne_zero hz
    obtain ⟨t, rfl⟩ := intItems_at (hv hsz)
    obtain ⟨h1, h2⟩ := argBest_gt (numAt xs) (xs.size - 1)
    refine h h' tk _ t hk ?_ fun a ha => ?_
    · rw [numAt_eq]; exact PySem.getD_mem (by rw [List.length_map, Array.length_toList]; omega)
    · obtain ⟨j, hj, rfl⟩ := mem_getD ha
      rw [List.length_map, Array.length_toList] at hj
      rw [← numAt_eq]; exact h2 j (by omega)
end
section
variable {X : Cx}
theorem call_maxD (hc : X.calm = true) : CallRK X (.builtin "max") [Str.ofString "default"] (rMaxD X.K) := by
  intro pins s σ H vs zs us ws Q I r rz h
  obtain ⟨a, ns, d, rfl, rfl, hs, q0, q⟩ := h
  obtain rfl := Vals.ref1 r
  obtain ⟨w1, rfl, e1⟩ := vals1 rz
  obtain ⟨its, rv, hl, _⟩ := I.list hs
  exact maxD_raw (I.ok.hd hc) hl.isList rv.ints (fun e h' tk hk => ⟨_, H, I.kept hk, e1, q0 e⟩) fun h' tk m t' hk h1 h2 => ⟨.int _, H, I.kept hk, ⟨_, rfl⟩, q m h1 h2⟩
end
end RW

namespace RW
open PySem PySem.Spec PyProof.Rows L2 PySem.RW
/-- repr(x) of a tuple -/
def rReprT (K : PySem.W.Frag) : List V → Hp → VK → Prop := fun vs H Q => ∃ (a : Addr) (ds : List PyData), vs = [.ref a] ∧ Dp K H (.ref a) (.tuple ds) ∧ wide (.tuple ds) = true ∧ (PyData.tuple ds).shown.length ≤ sizeLine ∧ (PyData.tuple ds).depth ≤ 50 ∧ Q (.str (PyData.tuple ds).shown) H
theorem call_reprT {X : Cx} (hG : X.A.guards = some []) (hr : X.A.units + 64 < cLine) (S : StatAt X.base) : CallR X (.builtin "repr") (rReprT X.K) := by
  intro pins s σ H vs us Q I r h
  obtain ⟨a, ds, rfl, hd, hw, hz, hdp, q⟩ := h
  obtain ⟨u, rfl, rv⟩ := vals1 r
  obtain rfl : u = Value.ref a := rv
  obtain ⟨as, rd⟩ := Dp.reads I _ _ _ hd rfl
  exact repr_tuple (S.keep fun b o e => I.bk b o e) rd hw hz hG (by omega) fun h' u tk hk => ⟨.str _, H, I.kept hk, ⟨_, rfl⟩, q⟩
end RW

namespace RW
open PySem PySem.Spec PyProof.Rows L2 PySem.RW
open PySem.W in
theorem ns_none_of {K : Frag} {h : Heap} {a : Addr} {m : Str → Option Value} {n : Str} (X : K.In h) (G : h.Ns a m) (e : nsIn K a n = some none) : m n = none := by
  obtain ⟨o, es, ep, ho, hd, _, hf⟩ := G
  unfold nsIn at e
  split at e
  · rename_i c d es' n' sl q
    have := X _ _ q
    rw [ho] at this
    cases this
    cases hd
    split at e
    · cases e
    · rename_i hn
      rw [← hf]
      split at e
      · cases e
      · unfold nsFind findBy
        rw [← Array.find?_toList, hn]
        rfl
  · cases e
theorem stat_of {K : PySem.W.Frag} {h : Heap} (X : K.In h) (G : h.NoLimit) (e : PySem.W.nsIn K cStatics "sys.int_max_str_digits" = some none) : StatAt h := by
  obtain ⟨mc, n, _⟩ := G
  exact ⟨mc, n, ns_none_of X n e⟩

/-- the law's def called with the script, where nothing is being shown -/
theorem law_callG {P : Program} {w : World} {K : PySem.W.Frag} {mg mb : Str → Option Value} {k : Nat} {fa a : Addr} {fd : FuncData} {x : Str} {sp : Sp} {s1 : Shared} {vs : List Value} {ns : List Int}
    (KX : K.In s1.heap) (hns : s1.heap.Ns mainGlobals mg) (hb : s1.heap.Ns builtinsNs mb) (hbb : ∀ x : Str, x ≠ "__name__" → mb x = bootBuiltins x) (hlim : s1.heap.NoLimit) (hg : s1.gens = #[])
    (ha : s1.heap.get? a = some { cls := .type "list", data := .seq vs.toArray }) (hi : IntsAre vs ns) (hl : ns.length ≤ sizeLine) (hr : Room k callerA)
    (F : ∀ base : Heap, Mod K mg base → FnG P w K mg base k fa fd [x] sp) (hbind : ∀ (s : Shared) (u : Value), BindsTo s fd ⟨[u], []⟩ [(x, u)])
    (hsp : ∀ H : Hp, Only H → SqL K H a (ns.map V.int) → sp [.ref a] H (fun v _ => v = .bl true) fun _ _ _ => False) :
    codeAny (model P w) callerA (.call (.ref fa) ⟨[.ref a], []⟩) (fun r s' => r = .ok (.ret (.bool true)) ∧ OldK s1.heap s'.heap ∧ s'.os = s1.os ∧ AllBare s'.gens) s1 := by
  have rv := vals_ints hi
  have lenV := hi.length
  have core : ∀ H : Hp, Only H → SqL K H a (ns.map V.int) → HOk P w H s1.heap → (∀ b, H b ≠ none → b = a) → (H a ≠ none → K.lookup a = none) →
      codeAny (model P w) callerA (.call (.ref fa) ⟨[.ref a], []⟩) (fun r s' => r = .ok (.ret (.bool true)) ∧ OldK s1.heap s'.heap ∧ s'.os = s1.os ∧ AllBare s'.gens) s1 := by
    intro H hO hS hok hA hK
    have keepB : ∀ {b : Addr} {o : Obj}, s1.heap.get? b = some o → H b = none → (hidT s1.heap H).get? b = some o := fun e n => hidT_get e n
    have noD : ∀ {b : Addr} {o : Obj} {es : Array DictEntry} {ep : Nat}, s1.heap.get? b = some o → o.data = .dict es ep → H b = none := fun {b o es ep} e d => by
      cases q : H b with
      | none => rfl
      | some u =>
        have e' : b = a := hA b (by rw [q]; simp)
        subst e'
        rw [ha] at e; cases e
        have d' : Data.seq vs.toArray _ = Data.dict es ep := d
        cases d'
    have nsK : ∀ {b : Addr} {m : Str → Option Value}, s1.heap.Ns b m → (hidT s1.heap H).Ns b m := fun {b m} ⟨o, es, ep, e, d, r⟩ => ⟨o, es, ep, keepB e (noD e d), d, r⟩
    have hKb : K.In (hidT s1.heap H) := fun b o e => keepB (KX b o e) (by
      cases q : H b with
      | none => rfl
      | some u =>
        have e' : b = a := hA b (by rw [q]; simp)
        subst e'
        rw [hK (by rw [q]; simp)] at e; cases e)
    have hM : Mod K mg (hidT s1.heap H) := ⟨hKb, nsK hns, ⟨mb, nsK hb, hbb⟩, let ⟨mc, h1, h2⟩ := hlim; ⟨mc, nsK h1, h2⟩⟩
    have e0 : Env0 P w K mg (hidT s1.heap H) callerA [] s1 H := ⟨rfl, hM, fun b o e => of_hidT e, Nat.le_of_eq (hidT_size _ _), trivial, fun b hb => absurd (show b ∈ ([] : List Addr) from hb) (by simp), hok, .of_eq hg⟩
    refine codeAny_mono ((F _ hM).run callerA [] s1 H ⟨[.ref a], []⟩ [.ref a] [.ref a] _ _ rfl hr e0 (hbind s1 (.ref a)) (.cons rfl .nil) (hsp H hO hS)) fun r s' h => ?_
    cases r with
    | error e => exact False.elim h
    | ok fl =>
      cases fl with
      | next => exact False.elim h
      | brk => exact False.elim h
      | cont => exact False.elim h
      | ret u =>
        obtain ⟨v, H', os, bare, un, hok', r', q⟩ := h
        have q' : v = .bl true := q
        subst q'
        obtain rfl : u = Value.bool true := r'
        refine ⟨rfl, OldK.of_keep fun b o e => ?_, os, bare⟩
        cases q : H b with
        | none => exact un.keep b o e q (by intro z; exact absurd (show b ∈ ([] : List Addr) from z) (by simp)) (by simp)
        | some u =>
          rcases hO b with z | ⟨ob, xs, z⟩
          · rw [q] at z; cases z
          · have z2 := un.frzs b ob _ z
            obtain ⟨e1, _⟩ := hok b _ z
            obtain ⟨e2, _⟩ := hok' b _ z2
            rw [e] at e1; cases e1
            exact e2
  cases hk : K.lookup a with
  | some o =>
    have e := KX a o hk
    rw [ha] at e
    cases e
    refine core (fun _ => none) (fun _ => .inl rfl) (.inr ⟨_, vs.toArray, _, hk, rfl, rfl, rfl, by rw [List.size_toArray, lenV]; exact hl, by simpa using rv⟩) (fun b u z => by have z' : (none : Option HO) = some u := z; cases z') (fun b z => absurd rfl z) fun z => absurd rfl z
  | none =>
    refine core (fun b => if b = a then some (.frz { cls := .type "list", data := .seq vs.toArray } (.lst (ns.map V.int))) else none) (fun b => ?_) (.inl (.inr ⟨{ cls := .type "list", data := .seq vs.toArray }, if_pos rfl⟩)) (fun b u z => ?_) (fun b z => ?_) fun _ => hk
    · by_cases hb : b = a
      · exact .inr ⟨_, _, if_pos hb⟩
      · exact .inl (if_neg hb)
    · by_cases hb : b = a
      · have z' := (if_pos hb).symm.trans z
        cases z'
        subst hb
        exact ⟨ha, by rw [List.length_map]; exact hl, vs, _, rv, ha⟩
      · have z' := (if_neg hb).symm.trans z
        cases z'
    · by_cases hb : b = a
      · exact hb
      · exact absurd (if_neg hb) z

theorem walk_G {l : PySem.W.OpenLaw} {n k : Nat} {q : Program} {loose : List Str} {XP : (Str → Option Value) → Heap → Prop} {YP : World → Heap → Prop} {d : DefRec} {K : Params → PySem.W.Frag} {sp : PySem.W.Frag → Sp} {x : Str}
    (hn : l.most = some n) (hn2 : n ≤ sizeLine) (hdf : d.params.defaults = []) (hr : Room k callerA)
    (hY : ∀ (w : World) (h : Heap), YP w h → (K w.params).In h)
    (F : ∀ (w : World) (mg : Str → Option Value) (fa : Addr) (h : Heap), (K w.params).In h → h.Ns mainGlobals mg → mg d.name = some (.ref fa) →
      ∃ fd : FuncData, (∀ (s : Shared) (u : Value), BindsTo s fd ⟨[u], []⟩ [(x, u)]) ∧
        ∀ base : Heap, Mod (K w.params) mg base → FnG l.prog w (K w.params) mg base k fa fd [x] (sp (K w.params)))
    (hsp : ∀ (K : PySem.W.Frag) (H : Hp) (a : Addr) (ns : List Int), ns.length ≤ n → (∀ z ∈ ns, Builtin.Int.intBits z ≤ 1048576) → Only H → SqL K H a (ns.map V.int) → sp K [.ref a] H (fun v _ => v = .bl true) fun _ _ _ => False) :
    PySem.W.WalkO q loose XP YP l.row.toRowW d [] (fun f vs => PySem.call f vs) := by
  refine Att.attach_callB hn hdf fun w s0 s1 mg mb fa o pm cd doc a vs ns G Y ho hd hcd hmg hobj hints hlen hbits hg => ?_
  have KX := hY w _ Y
  obtain ⟨fd, hb, hF⟩ := F w mg fa _ KX G.T.g hmg
  exact law_callG KX G.T.g G.T.b G.T.builtins G.T.nolimit hg hobj hints (Nat.le_trans hlen hn2) hr hF hb (fun H hO hS => hsp (K w.params) H a ns hlen hbits hO hS)
end RW

namespace RW
open PySem PySem.Spec PyProof.Rows L2
theorem tuple_mul_one (l : Addr) (items : Array Value) (n : Nat) (dd : Option Addr) (sl : Array (Option Value)) (u : Tok) :
    Meets (Builtin.«tuple.__mul__» ⟨[.ref l, .int 1 u], []⟩) (fun _ R s => s.heap.get? l = some { cls := .type "tuple", dict := dd, data := .seq items n, slots := sl } ∧ R (.ok (.ret (Value.ref l))) s) :=
  .of_wp fun prog w A R s h => by
    obtain ⟨hp, g, d, tk, os⟩ := s
    obtain ⟨hl, h⟩ := h
    have f1 := AutoSeq1.idx_int
    wp_walk using wpAny_loadPart' hl
    exact ⟨_, rfl, h⟩
section
variable {X : Cx}
theorem op_powW : OpR X (binaryOp .Pow) (rI (fun i j => 0 ≤ j ∧ (Builtin.Int.intBits i : Int) * j ≤ 2 ^ 27) fun i j => .int (i ^ j.toNat)) := opI fun _ _ _ _ _ _ _ hc q => pow_int hc.1 hc.2 q
/-- t * k, k from 1 on: t itself for 1 -/
def rRepA (K : PySem.W.Frag) : R2 := fun x y H Q => ∃ l k xs, x = .ref l ∧ y = .int k ∧ SqT K H l xs ∧ xs ≠ [] ∧ 1 ≤ k ∧ k ≤ 1000 ∧ xs.length ≤ 1000 ∧ (k = 1 → Q (.ref l) H) ∧ (k ≠ 1 → ∀ p, H p = none → Q (.ref p) (upd H p (.tup (List.replicate k.toNat xs).flatten)))
theorem op_repA : OpR X (binaryOp .Mult) (rRepA X.K) := by
  intro pins s σ H x y v u Q I rx ry h
  obtain ⟨l, k, xs, rfl, rfl, hT, hne, h1, h2, hz, q1, q2⟩ := h
  by_cases hk : k = 1
  · subst hk
    cases rx
    obtain ⟨t, rfl⟩ := ry
    obtain ⟨its, r, ⟨⟨cls, dd, data, sl⟩, ho, hc, n, hd⟩, hs⟩ := I.tuple hT
    simp only at hc hd
    subst hc hd
    exact wpAny_binaryOp_repeat_ref (T := "tuple") (U := "int") (by decide) ⟨_, ho, rfl⟩ (fun s' => typeIs_int s' 1 t) noFill_tuple_mul F.fills_int_mul F.slot_int_rmul repeat_tuple F.slot_int_index.lookup
      (call_meets F.slot_int_rmul (typeIs_int s 1 t) F.entry_int_rmul (F.args_int_rmul_2 _ _) (int_rmul_tuple 1 t l its.toArray n dd sl)
        ⟨ho, rfl, ⟨_, ho, rfl⟩, call_meets F.slot_tuple_mul ⟨_, ho, rfl⟩ F.entry_tuple_mul (F.args_tuple_mul_2 _ _) (tuple_mul_one l its.toArray n dd sl t) ⟨ho, ⟨.ref l, H, I, rfl, q1 rfl⟩⟩⟩)
  · exact op_repT pins s σ H _ _ v u Q I rx ry ⟨l, k, xs, rfl, rfl, hT, hne, by omega, h2, hz, q2 hk⟩
end
end RW

namespace RW
open PySem PySem.Spec PyProof.Rows L2
theorem tuple_mul_zero (l : Addr) (items : Array Value) (n : Nat) (dd : Option Addr) (sl : Array (Option Value)) (u : Tok) (c1 : (items.isEmpty || (0 : Int) == 1) = false) :
    Meets (Builtin.«tuple.__mul__» ⟨[.ref l, .int 0 u], []⟩) (fun _ R s => s.heap.get? l = some { cls := .type "tuple", dict := dd, data := .seq items n, slots := sl } ∧
      R (.ok (.ret (Value.ref s.heap.objs.size))) { s with heap := s.heap.push { cls := Value.type "tuple", data := Data.seq #[] }, toks := s.toks }) :=
  .of_wp fun prog w A R s h => by
    obtain ⟨hp, g, d, tk, os⟩ := s
    obtain ⟨hl, h⟩ := h
    have f1 := AutoSeq1.idx_int
    wp_walk using wpAny_loadPart' hl
    repeat (first
      | (refine wpAny_ite_false (decide_eq_false (by rw [c1]; exact Bool.false_ne_true)) ?_; wp_walk using wpAny_loadPart' hl))
    exact ⟨_, rfl, h⟩
section
variable {X : Cx}
/-- t * k, k from 0 on -/
def rRepX (K : PySem.W.Frag) : R2 := fun x y H Q => ∃ l k xs, x = .ref l ∧ y = .int k ∧ SqT K H l xs ∧ xs ≠ [] ∧ 0 ≤ k ∧ k ≤ 1000 ∧ xs.length ≤ 1000 ∧ (k = 1 → Q (.ref l) H) ∧ (k ≠ 1 → ∀ p, H p = none → Q (.ref p) (upd H p (.tup (List.replicate k.toNat xs).flatten)))
theorem op_repX : OpR X (binaryOp .Mult) (rRepX X.K) := by
  intro pins s σ H x y v u Q I rx ry h
  obtain ⟨l, k, xs, rfl, rfl, hT, hne, h1, h2, hz, q1, q2⟩ := h
  by_cases hk : k = 0
  · subst hk
    cases rx
    obtain ⟨t, rfl⟩ := ry
    obtain ⟨its, r, ⟨⟨cls, dd, data, sl⟩, ho, hc, n, hd⟩, hs⟩ := I.tuple hT
    simp only at hc hd
    subst hc hd
    have c1 : (its.toArray.isEmpty || (0 : Int) == 1) = false := by
      cases r with
      | nil => exact absurd rfl hne
      | cons a b => rfl
    refine wpAny_binaryOp_repeat_ref (T := "tuple") (U := "int") (by decide) ⟨_, ho, rfl⟩ (fun s' => typeIs_int s' 0 t) noFill_tuple_mul F.fills_int_mul F.slot_int_rmul repeat_tuple F.slot_int_index.lookup
      (call_meets F.slot_int_rmul (typeIs_int s 0 t) F.entry_int_rmul (F.args_int_rmul_2 _ _) (int_rmul_tuple 0 t l its.toArray n dd sl)
        ⟨ho, rfl, ⟨_, ho, rfl⟩, call_meets F.slot_tuple_mul ⟨_, ho, rfl⟩ F.entry_tuple_mul (F.args_tuple_mul_2 _ _) (tuple_mul_zero l its.toArray n dd sl t c1) ⟨ho, ?_⟩⟩)
    refine ⟨.ref s.heap.objs.size, _, I.laid (t' := s.toks) (o := .tup []) (fun b ob q => Heap.get?_push_of_some _ q) (Nat.le_refl _) ?_, rfl, q2 (by decide) _ (I.hok.fresh (Nat.le_refl _))⟩
    exact ⟨Nat.zero_le _, [], .nil, IsTup.new _ _⟩
  · exact op_repA pins s σ H _ _ v u Q I rx ry ⟨l, k, xs, rfl, rfl, hT, hne, by omega, h2, hz, q1, q2⟩
end
end RW

/-! enumerate(t), t a tuple -/
namespace RZ
open PySem PySem.Spec
theorem meets_enum0 {v : Value} {o : Obj} {H : Heap → Prop} (B : Begins v o H) :
    Meets (Builtin.«enumerate.__new__» ⟨[.type "enumerate", v], []⟩) (fun _ R s => H s.heap ∧
      R (.ok (.ret (.ref (s.heap.push o).objs.size))) { s with heap := (s.heap.push o).push { cls := .type "enumerate", data := .fields #[.none, .bool false, .ref s.heap.objs.size, rawInt 0, .none, .none] } }) :=
  .of_wp fun prog w A R s h => by
    obtain ⟨hp, g, d, tk, os⟩ := s; obtain ⟨h1, h⟩ := h
    have hsub := sub_enumerate
    have q1 : ∀ {A' : Around} {E : Value → Shared → Prop} {Q : Value → Shared → Prop}, Q (.ref hp.objs.size) ⟨hp.push o, g, d, tk, os⟩ → wpAny (model prog w) A' (pyIter v) Q E ⟨hp, g, d, tk, os⟩ :=
      fun q => B.iter prog w _ _ ⟨hp, g, d, tk, os⟩ _ h1 q
    wp_walk using q1
    refine wpAny_stack_any fun st => wpAny_pure ?_
    split
    · rename_i c _ _ _ _ _
      cases (c == Value.type "enumerate")
      · wp_walk using q1
        exact ⟨_, rfl, h⟩
      · wp_walk using q1
        exact ⟨_, rfl, h⟩
    · wp_walk using q1
      exact ⟨_, rfl, h⟩
section
variable {prog : Program} {w : World} {A : Around} {E : Value → Shared → Prop} {s : Shared}
theorem enum_begins0 {v : Value} {o : Obj} {H : Heap → Prop} {Q : Value → Shared → Prop} (B : Begins v o H) (h1 : H s.heap)
    (h : ∀ h', IsEnum h' (s.heap.objs.size + 1) s.heap.objs.size 0 .none → h'.get? s.heap.objs.size = some o → h'.objs.size = s.heap.objs.size + 2 →
      (∀ b o, s.heap.get? b = some o → h'.get? b = some o) → Q (.ref (s.heap.objs.size + 1)) { s with heap := h' }) :
    wpAny (model prog w) A (call (.type "enumerate") [v]) Q E s := by
  refine callType_new F.called_enumerate (by decide) (F.typeCall_enumerate_1 _) (F.newCall_enumerate_1 _) (fun obj => F.args_object_init_2 obj _) F.entry_enumerate_new
    (meets_enum0 B) ⟨h1, ?_⟩
  have hz : (s.heap.push o).objs.size = s.heap.objs.size + 1 := Heap.size_push ..
  show _ ∧ _
  rw [hz]
  have he : IsEnum ((s.heap.push o).push { cls := .type "enumerate", data := .fields #[.none, .bool false, .ref s.heap.objs.size, rawInt 0, .none, .none] }) (s.heap.objs.size + 1) s.heap.objs.size 0 .none := by
    have := Heap.get?_push_size (s.heap.push o) (o := { cls := .type "enumerate", data := .fields #[.none, .bool false, .ref s.heap.objs.size, rawInt 0, .none, .none] }) rfl
    rw [hz] at this; exact this
  refine ⟨⟨_, he, rfl⟩, h _ he (Heap.get?_push_of_some _ (Heap.get?_push_size _ B.free)) (by rw [Heap.size_push, hz]) fun b o x => Heap.get?_push_of_some _ (Heap.get?_push_of_some _ x)⟩
end
open L2 PyProof.Rows
/-- the tuple at a, each item in a new pair -/
def IteT (K : PySem.W.Frag) (a : Addr) : It :=
  ⟨fun i H => ∃ (xs : List V) (x : V), SqT K H a xs ∧ xs[i]? = some x, fun i H v H' => ∃ T x, v = .ref T ∧ H T = none ∧ H' = upd H T (.tup [.int (i : Nat), x]) ∧ ∀ xs, SqT K H a xs → xs[i]? = some x, fun i H => ∃ xs : List V, SqT K H a xs ∧ xs.length ≤ i⟩
theorem turn_enumT {P : Program} {w : World} {K : PySem.W.Frag} {elts : List Expr} {kk : Nat} {tpos : Pos} {a e it : Addr} (hne : e ≠ it) (hea : e ≠ a) (hia : a ≠ it) :
    Turn P w K (.Tuple elts kk tpos) (IteT K a) [e, it] e (fun i h => (∃ old, IsEnum h e it ((i : Nat) : Int) old) ∧ h.IsTupleIter it a i) where
  mem := by simp
  obj := fun i h st b hb => by
    obtain ⟨⟨old, he⟩, ⟨o, ho, hc, hd⟩⟩ := st
    have e' : b = e ∨ b = it := by simpa using hb
    rcases e' with z | z
    · rw [z]; exact ⟨_, he, fun v q => nomatch q⟩
    · rw [z]; exact ⟨o, ho, fun v q => by rw [hd] at q; cases q⟩
  keep := fun i h h' st k => let ⟨⟨old, he⟩, hi⟩ := st; ⟨⟨old, k e (by simp) _ he⟩, hi.at fun o q => k it (by simp) o q⟩
  item := by
    intro X hP hw hK hc i pins s σ H E I hf st hg
    subst hP hw hK
    obtain ⟨⟨old, he⟩, hit⟩ := st
    obtain ⟨xs, x, hq, hx⟩ := hg
    obtain ⟨its, rv, p, hz⟩ := I.tuple hq
    obtain ⟨u, hu, ru⟩ := rv.get hx
    have hel : e < s.heap.objs.size := Heap.lt_size he
    have hil : it < s.heap.objs.size := by obtain ⟨_, q, _⟩ := hit; exact Heap.lt_size q
    have hlt : i < its.toArray.size := by
      have := (List.getElem?_eq_some_iff.mp hu).1
      simpa using this
    refine wpAny_pyNext_enum_itemD (Draws.tuple (A := X.A.in1) (show X.A.in1.handled = none from I.ok.hd hc) it a hia its.toArray) he ⟨hit, p⟩ hlt hne (by simp [hne, hea]) fun y h' tk hP ho hst' hT hsz hk => ?_
    obtain ⟨hit', p'⟩ := hst'
    have ey : y = u := by
      have : its.toArray[i]? = some u := by simpa using hu
      rw [this] at hP
      exact (Option.some.inj hP).symm
    subst ey
    refine ⟨_, rfl, wpAny_letOwnedTupleGo_enum (s := { s with heap := h', toks := tk + 1 }) ho fun h'' he' sb => ?_⟩
    have hT2 : h''.get? s.heap.objs.size = some { cls := .type "tuple", data := .seq #[.int i tk, y] } := (sb.2 _ (Nat.ne_of_gt hel)).trans hT
    have new : ObjOk X.prog X.w (upd H s.heap.objs.size (.tup [.int (i : Nat), x])) h'' s.heap.objs.size (.tup [.int (i : Nat), x]) :=
      ⟨by show 2 ≤ sizeLine; decide, [.int i tk, y], .cons ⟨_, rfl⟩ (.cons ru .nil), ⟨_, hT2, rfl, _, rfl⟩⟩
    have I1 : Inv X pins σ (upd H s.heap.objs.size (.tup [.int (i : Nat), x])) { s with heap := h'', toks := tk + 1 } :=
      I.turnedNew (t' := tk + 1) (ch := [e, it]) (fun b ob hb q => (sb.2 b (fun z => hb (by simp [z]))).trans (hk b ob (fun z => hb (by simp [z])) (fun z => hb (by simp [z])) q)) hf (Nat.le_refl _) new
    refine ⟨.ref s.heap.objs.size, _, I1, rfl, ⟨_, x, rfl, I.hok.fresh (Nat.le_refl _), rfl, fun ys hy => by rw [I.tuple_inj hy hq]; exact hx⟩, ⟨⟨y, ?_⟩, hit'.at fun o q => (sb.2 it (Ne.symm hne)).trans q⟩, fun b hb => ?_⟩
    · have e1 : ((i + 1 : Nat) : Int) = (i : Int) + 1 := by omega
      rw [e1]; exact he'
    · have hb' : b < s.heap.objs.size := by
        have e' : b = e ∨ b = it := by simpa using hb
        rcases e' with z | z
        · rw [z]; exact hel
        · rw [z]; exact hil
      rw [upd_ne (Nat.ne_of_lt hb')]
      exact (hf b hb).1
  done := by
    intro X hP hw hK hc i pins s σ H E I hf st hg
    subst hP hw hK
    obtain ⟨⟨old, he⟩, hit⟩ := st
    obtain ⟨xs, hq, hx⟩ := hg
    obtain ⟨its, rv, p, hz⟩ := I.tuple hq
    obtain ⟨f0, f1, f2, f3, f4, f5⟩ := hf it (by simp)
    have hl := rv.length
    have hT : s.TypeIs (.ref e) "enumerate" := ⟨_, he, rfl⟩
    unfold pyNext
    refine wpAny_bind (wpAny_attempt (wpAny_callSpecial?_slot (name := Str.ofString "__next__") hT F.slot_enumerate_next
      (wpAny_call_entry F.slot_enumerate_next hT F.entry_enumerate_next ?_ (F.args_enumerate_next_1 _))))
    show wpAny _ _ (field (.ref e) 2 >>= _) _ _ _
    refine wpAny_bind (wpAny_field he rfl (x := .ref it) rfl ?_)
    refine wpAny_bind (wpAny_nextOf_tuple_end (I.ok.hd hc) hit p (by simp; omega) fun h' x he' hx' => ?_)
    obtain ⟨o, ho, hc2⟩ := hx'
    refine wpAny_bind (wpAny_isInstance (T := "StopIteration") (b := true) ⟨o, ho, hc2⟩ isSubtype_stop ?_)
    exact wpAny_pure ⟨rfl, I.turned (t' := s.toks) (fun b o hb q => he' b o hb q) f0 f1 f3 f4 f5⟩
  self := fun A i s Q E st h => let ⟨⟨_, he⟩, _⟩ := st; wpAny_pyIter_enum he h
def iEnumT (K : PySem.W.Frag) (ta : TA) : TI := fun σ H R => ta σ H fun vs H1 => ∃ a xs, vs = [.ref a] ∧ SqT K H1 a xs ∧ R (IteT K a) H1
theorem pi_enumT {X : Cx} {e : Expr} {ta : TA} {p pos tpos : Pos} {elts : List Expr} {kk : Nat} (hg : Gl X "enumerate") (hm : X.mg "enumerate" = none) (ha : PA X [e] ta) (hs : starEach [e] X.env = [(false, eval e X.env)] := by rfl) :
    PI X (.Tuple elts kk tpos) (.Call (.Name "enumerate" p) [e] [] pos) (iEnumT X.K ta) := by
  refine ⟨fun pins s σ H R I h => ?_⟩
  refine Call_ (ld_blt I hg hm boot_enumerate (PyProof.Rows.callWith_type1 (thn (ha.run pos pins s σ H _ I h) fun us s1 ⟨vs, H1, I1, r1, q1⟩ => ?_) hs rfl))
  obtain ⟨a, xs, ex, hq, q⟩ := q1
  subst ex
  cases r1 with
  | cons r rr =>
    cases rr
    cases r
    obtain ⟨its, rv, p', hz⟩ := I1.tuple hq
    have hla : a < s1.heap.objs.size := by obtain ⟨_, q, _⟩ := p'; exact Heap.lt_size q
    refine enum_begins0 (begins_tuple a its.toArray) p' fun h' he hit hsz hk => wpAny_pyIter_enum he ?_
    have I2 : Inv X pins σ H1 { s1 with heap := h' } := I1.kept (t' := s1.toks) hk
    refine ⟨s1.heap.objs.size + 1, [s1.heap.objs.size + 1, s1.heap.objs.size], _, _, H1, rfl, I2, turn_enumT (Nat.succ_ne_self _) (Nat.ne_of_gt (Nat.lt_succ_of_lt hla)) (Nat.ne_of_lt hla), ⟨⟨.none, he⟩, ⟨_, hit, rfl, rfl⟩⟩, fun b hb => ?_, q⟩
    have e' : b = s1.heap.objs.size + 1 ∨ b = s1.heap.objs.size := by simpa using hb
    have hle : s1.heap.objs.size ≤ b := by
      rcases e' with z | z
      · rw [z]; exact Nat.le_add_right _ _
      · rw [z]; exact Nat.le_refl _
    exact I1.fpOk hle (I1.hok.fresh hle)
theorem walk_enumT {K : PySem.W.Frag} {a : Addr} {xs : List V} : Walk (IteT K a) xs.length (fun H => SqT K H a xs) (fun i H v H' => ∃ T x, v = .ref T ∧ H T = none ∧ H' = upd H T (.tup [.int (i : Nat), x]) ∧ xs[i]? = some x) := by
  refine ⟨fun i _ hi q => ⟨xs, xs[i], q, by simp [hi]⟩, fun _ q => ⟨xs, q, Nat.le_refl _⟩, fun i H v H' _ q y => ?_⟩
  obtain ⟨T, x, h1, h2, h3, h4⟩ := y
  exact ⟨T, x, h1, h2, h3, h4 xs q⟩
end RZ

/-! data of any kind, dicts with whole numbers for keys among them; u and d stand for two lists that may change -/
namespace RZ
open PySem PySem.Spec PyProof.Rows L2
/-- all stands but the urn's two lists that change -/
def Off (u d : Addr) (H H' : Hp) : Prop := ∀ b o, b ≠ u → b ≠ d → H b = some o → H' b = some o
theorem Off.refl {u d : Addr} (H : Hp) : Off u d H H := fun _ _ _ _ h => h
theorem Off.trans {u d : Addr} {H H1 H2 : Hp} (a : Off u d H H1) (b : Off u d H1 H2) : Off u d H H2 := fun c o h1 h2 h => b c o h1 h2 (a c o h1 h2 h)
theorem Same.off {u d : Addr} {H H' : Hp} (S : Same H H') : Off u d H H' := fun b o _ _ h => S b o h
mutual
inductive DX (u d : Addr) (H : Hp) : V → PyData → Prop
  | non : DX u d H .non .none
  | bl (b : Bool) : DX u d H (.bl b) (.bool b)
  | int (i : Int) : DX u d H (.int i) (.int i)
  | str (x : Str) : DX u d H (.str x) (.str x)
  | lst {a : Addr} {xs : List V} {qs : List PyData} : a ≠ u → a ≠ d → H a = some (.lst xs) → DXs u d H xs qs → DX u d H (.ref a) (.list qs)
  | tup {a : Addr} {xs : List V} {qs : List PyData} : a ≠ u → a ≠ d → H a = some (.tup xs) → DXs u d H xs qs → DX u d H (.ref a) (.tuple qs)
  | dic {a : Addr} {kvs : List (Key × V)} {qs : List (PyData × PyData)} : a ≠ u → a ≠ d → H a = some (.dK kvs) → DXk u d H kvs qs → DX u d H (.ref a) (.dict qs)
inductive DXs (u d : Addr) (H : Hp) : List V → List PyData → Prop
  | nil : DXs u d H [] []
  | cons {v : V} {vs : List V} {q : PyData} {qs : List PyData} : DX u d H v q → DXs u d H vs qs → DXs u d H (v :: vs) (q :: qs)
inductive DXk (u d : Addr) (H : Hp) : List (Key × V) → List (PyData × PyData) → Prop
  | nil : DXk u d H [] []
  | cons {i : Int} {v : V} {kvs : List (Key × V)} {q : PyData} {qs : List (PyData × PyData)} : DX u d H v q → DXk u d H kvs qs → DXk u d H ((.inl i, v) :: kvs) ((.int i, q) :: qs)
end
mutual
theorem DX.off {u d : Addr} {H H' : Hp} (O : Off u d H H') : ∀ {v : V} {q : PyData}, DX u d H v q → DX u d H' v q
  | _, _, .non => .non
  | _, _, .bl b => .bl b
  | _, _, .int i => .int i
  | _, _, .str x => .str x
  | _, _, .lst h1 h2 h3 h4 => .lst h1 h2 (O _ _ h1 h2 h3) (DXs.off O h4)
  | _, _, .tup h1 h2 h3 h4 => .tup h1 h2 (O _ _ h1 h2 h3) (DXs.off O h4)
  | _, _, .dic h1 h2 h3 h4 => .dic h1 h2 (O _ _ h1 h2 h3) (DXk.off O h4)
theorem DXs.off {u d : Addr} {H H' : Hp} (O : Off u d H H') : ∀ {v : List V} {q : List PyData}, DXs u d H v q → DXs u d H' v q
  | _, _, .nil => .nil
  | _, _, .cons h1 h2 => .cons (DX.off O h1) (DXs.off O h2)
theorem DXk.off {u d : Addr} {H H' : Hp} (O : Off u d H H') : ∀ {v : List (Key × V)} {q : List (PyData × PyData)}, DXk u d H v q → DXk u d H' v q
  | _, _, .nil => .nil
  | _, _, .cons h1 h2 => .cons (DX.off O h1) (DXk.off O h2)
end
theorem DX.same {u d : Addr} {H H' : Hp} {v : V} {q : PyData} (h : DX u d H v q) (S : Same H H') : DX u d H' v q := h.off (Same.off S)
theorem DXs.same {u d : Addr} {H H' : Hp} {v : List V} {q : List PyData} (h : DXs u d H v q) (S : Same H H') : DXs u d H' v q := h.off (Same.off S)
theorem DXs.length {u d : Addr} {H : Hp} : ∀ {vs : List V} {qs : List PyData}, DXs u d H vs qs → vs.length = qs.length
  | _, _, .nil => rfl
  | _, _, .cons _ h => by rw [List.length_cons, List.length_cons, DXs.length h]
theorem DXs.at {u d : Addr} {H : Hp} : ∀ {vs : List V} {qs : List PyData} {i : Nat} {v : V}, DXs u d H vs qs → vs[i]? = some v → ∃ q, qs[i]? = some q ∧ DX u d H v q
  | _, _, i, _, .nil, e => by simp at e
  | _, _, 0, _, .cons h _, e => by
    simp at e
    subst e
    exact ⟨_, rfl, h⟩
  | _, _, i + 1, _, .cons _ h, e => by
    obtain ⟨q, h1, h2⟩ := DXs.at (i := i) h (by simpa using e)
    exact ⟨q, by simpa using h1, h2⟩
theorem DXs.append {u d : Addr} {H : Hp} : ∀ {vs ws : List V} {qs rs : List PyData}, DXs u d H vs qs → DXs u d H ws rs → DXs u d H (vs ++ ws) (qs ++ rs)
  | _, _, _, _, .nil, s => s
  | _, _, _, _, .cons h r, s => .cons h (DXs.append r s)
theorem DXs.take {u d : Addr} {H : Hp} : ∀ {vs : List V} {qs : List PyData} (n : Nat), DXs u d H vs qs → DXs u d H (vs.take n) (qs.take n)
  | _, _, 0, _ => .nil
  | _, _, _ + 1, .nil => .nil
  | _, _, n + 1, .cons h r => .cons h (DXs.take n r)
theorem DXs.drop {u d : Addr} {H : Hp} : ∀ {vs : List V} {qs : List PyData} (n : Nat), DXs u d H vs qs → DXs u d H (vs.drop n) (qs.drop n)
  | _, _, 0, r => r
  | _, _, _ + 1, .nil => .nil
  | _, _, n + 1, .cons _ r => DXs.drop n r
theorem DXs.rep {u d : Addr} {H : Hp} {v : V} {q : PyData} (h : DX u d H v q) : ∀ n : Nat, DXs u d H (List.replicate n v) (List.replicate n q)
  | 0 => .nil
  | n + 1 => by rw [List.replicate_succ, List.replicate_succ]; exact .cons h (DXs.rep h n)
/-! ### repr -/
section
variable {X : Cx} {pins : List (Addr × Obj)} {σ : L2.St} {H : Hp} {s : Shared} {u d : Addr}
mutual
theorem rx_of (I : Inv X pins σ H s) : ∀ {v : V} {q : PyData} {x : Value}, DX u d H v q → RelV v x → q.showable = true → q.shown.length ≤ sizeLine →
    ∃ as bs, Reads s.heap x q as ∧ ReadAtMost s.heap q.depth bs ∧ ReprK X.prog X.w bs s.heap q.depth x q.shown
  | _, _, _, .non, r, _, _ => by
    cases r
    exact ⟨_, [], .none, (fun _ h => nomatch h), by simp only [PyData.shown]; exact .of_is ReprIs.none _ _ _⟩
  | _, _, _, .bl b, r, _, _ => by
    cases r
    exact ⟨_, [], .bool b, (fun _ h => nomatch h), by simp only [PyData.shown]; exact .of_is (ReprIs.bool b) _ _ _⟩
  | _, _, _, .int i, r, hs, _ => by
    obtain ⟨t, rfl⟩ := r
    exact ⟨_, [], .int i t, (fun _ h => nomatch h), by simp only [PyData.shown]; exact .of_is (ReprIs.int t (by simpa [PyData.showable] using hs)) _ _ _⟩
  | _, _, _, .str x, r, _, hz => by
    obtain ⟨t, rfl⟩ := r
    exact ⟨_, [], .str x t, (fun _ h => nomatch h), by simp only [PyData.shown]; exact .of_is (ReprIs.str x t (by simpa only [PyData.shown] using hz)) _ _ _⟩
  | _, _, _, .lst (a := a) (qs := qs) _ _ hl hd, r, hs, hz => by
    cases r
    have hz' : (listText (PyData.shownAll qs)).length ≤ sizeLine := by simpa only [PyData.shown] using hz
    obtain ⟨_, its, n, rv, h1⟩ := (show ObjOk X.prog X.w H s.heap a (.lst _) from I.hok a _ hl)
    obtain ⟨as, bs, hr, hb, hk⟩ := rxs_of I hd rv (by simpa [PyData.showable] using hs) (fun t ht => Nat.le_trans (listText_mem_le ht) hz')
    have rr : Reads s.heap (.ref a) (.list qs) _ := .list h1 rfl rfl hr
    have hna : a ∉ bs := not_mem_of_deeper rr (by simp only [PyData.depth]; omega) hb
    refine ⟨_, a :: bs, rr, ReadAtMost.cons rr (by simp only [PyData.depth]; omega) hb, ?_⟩
    simp only [PyData.depth, PyData.shown]
    cases its with
    | nil =>
      cases hr
      simp only [PyData.shownAll, listText_nil]
      exact ReprK.listEmpty h1 rfl rfl
    | cons x l => exact ReprK.list h1 rfl rfl hna (by simpa using hk.length_eq) (fun i y e => hk.item i y (by simpa using e))
  | _, _, _, .tup (a := a) (qs := qs) _ _ hl hd, r, hs, hz => by
    cases r
    have hz' : (tupleText (PyData.shownAll qs)).length ≤ sizeLine := by simpa only [PyData.shown] using hz
    obtain ⟨_, its, rv, o, h1, h2, n, h3⟩ := (show ObjOk X.prog X.w H s.heap a (.tup _) from I.hok a _ hl)
    obtain ⟨as, bs, hr, hb, hk⟩ := rxs_of I hd rv (by simpa [PyData.showable] using hs) (fun t ht => Nat.le_trans (tupleText_mem_le ht) hz')
    have rr : Reads s.heap (.ref a) (.tuple qs) _ := .tuple h1 h2 h3 hr
    have hna : a ∉ bs := not_mem_of_deeper rr (by simp only [PyData.depth]; omega) hb
    refine ⟨_, a :: bs, rr, ReadAtMost.cons rr (by simp only [PyData.depth]; omega) hb, ?_⟩
    simp only [PyData.depth, PyData.shown]
    exact ReprK.tuple h1 h2 h3 hna hk
  | _, _, _, .dic (a := a) (qs := qs) _ _ hl hd, r, hs, hz => by
    cases r
    have hz' : (dictText (PyData.shownKv qs)).length ≤ sizeLine := by simpa only [PyData.shown] using hz
    obtain ⟨_, hsys, ws, kv, o, es, ep, h1, h2, h3, h4, h5, h6⟩ := (show ObjOk X.prog X.w H s.heap a (.dK _) from I.hok a _ hl)
    obtain ⟨hs1, hs2⟩ := PyData.showableKv_split qs (by simpa [PyData.showable] using hs)
    obtain ⟨as, bs, b1, b2, r1, r2, hb1, hb2, k1, k2⟩ := rxk_of I hd kv h5 hs1 hs2 (fun t ht => let ⟨p, hp, hl⟩ := PyData.shownKv_key_le qs t ht; Nat.le_trans hl (Nat.le_trans (dictText_mem_le hp) hz'))
      (fun t ht => let ⟨p, hp, hl⟩ := PyData.shownKv_val_le qs t ht; Nat.le_trans hl (Nat.le_trans (dictText_mem_le hp) hz'))
    have rr : Reads s.heap (.ref a) (.dict qs) _ := .dict h1 h2.1 h3 r1 r2
    have hb : ReadAtMost s.heap (PyData.depthKv qs) (b1 ++ b2) := (hb1.mono (PyData.depthAll_keys_le qs)).append (hb2.mono (PyData.depthAll_vals_le qs))
    have hna : a ∉ b1 ++ b2 := not_mem_of_deeper rr (by simp only [PyData.depth]; omega) hb
    refine ⟨_, a :: (b1 ++ b2), rr, ReadAtMost.cons rr (by simp only [PyData.depth]; omega) hb, ?_⟩
    simp only [PyData.depth, PyData.shown, PyData.shownKv_eq]
    exact ReprK.dict h1 h2.1 h3 hsys hna (ReprEntriesK.of_two es.toList _ _
      (k1.more_le (fun b hb => List.mem_append_left _ hb) (PyData.depthAll_keys_le qs)) (k2.more_le (fun b hb => List.mem_append_right _ hb) (PyData.depthAll_vals_le qs)))
theorem rxs_of (I : Inv X pins σ H s) : ∀ {vs : List V} {qs : List PyData} {xs : List Value}, DXs u d H vs qs → Vals vs xs → PyData.showableAll qs = true → (∀ t ∈ PyData.shownAll qs, t.length ≤ sizeLine) →
    ∃ as bs, ReadsAll s.heap xs qs as ∧ ReadAtMost s.heap (PyData.depthAll qs) bs ∧ ReprAllK X.prog X.w bs s.heap (PyData.depthAll qs) xs (PyData.shownAll qs)
  | _, _, _, .nil, r, _, _ => by
    cases r
    exact ⟨_, [], .nil, (fun _ h => nomatch h), by simp only [PyData.shownAll]; exact .nil⟩
  | _, _, _, .cons (q := q) (qs := qs) h hr, r, hs, hz => by
    cases r with
    | cons r1 r2 =>
      have h2 : q.showable = true ∧ PyData.showableAll qs = true := by simpa [PyData.showableAll] using hs
      obtain ⟨a1, b1, q1, hb1, k1⟩ := rx_of I h r1 h2.1 (hz _ (by simp only [PyData.shownAll]; exact List.mem_cons_self ..))
      obtain ⟨a2, b2, q2, hb2, k2⟩ := rxs_of I hr r2 h2.2 (fun t ht => hz t (by simp only [PyData.shownAll]; exact List.mem_cons_of_mem _ ht))
      refine ⟨_, b1 ++ b2, .cons q1 q2, (hb1.mono (by simp only [PyData.depthAll]; exact Nat.le_max_left _ _)).append (hb2.mono (by simp only [PyData.depthAll]; exact Nat.le_max_right _ _)), ?_⟩
      simp only [PyData.depthAll, PyData.shownAll]
      exact .cons ((k1.more fun b hb => List.mem_append_left _ hb).level_le (Nat.le_max_left _ _)) (k2.more_le (fun b hb => List.mem_append_right _ hb) (Nat.le_max_right _ _))
theorem rxk_of (I : Inv X pins σ H s) : ∀ {kvs : List (Key × V)} {qs : List (PyData × PyData)} {ws : List (Key × Value)} {es : List DictEntry}, DXk u d H kvs qs → KV kvs ws → Pairs (mixKind X.prog X.w) es ws →
    PyData.showableAll (qs.map (·.1)) = true → PyData.showableAll (qs.map (·.2)) = true → (∀ t ∈ PyData.shownAll (qs.map (·.1)), t.length ≤ sizeLine) → (∀ t ∈ PyData.shownAll (qs.map (·.2)), t.length ≤ sizeLine) →
    ∃ as bs b1 b2, ReadsAll s.heap (es.map (·.key)) (qs.map (·.1)) as ∧ ReadsAll s.heap (es.map (·.val)) (qs.map (·.2)) bs ∧ ReadAtMost s.heap (PyData.depthAll (qs.map (·.1))) b1 ∧ ReadAtMost s.heap (PyData.depthAll (qs.map (·.2))) b2 ∧
      ReprAllK X.prog X.w b1 s.heap (PyData.depthAll (qs.map (·.1))) (es.map (·.key)) (PyData.shownAll (qs.map (·.1))) ∧ ReprAllK X.prog X.w b2 s.heap (PyData.depthAll (qs.map (·.2))) (es.map (·.val)) (PyData.shownAll (qs.map (·.2)))
  | _, _, _, _, .nil, r, p, _, _, _, _ => by
    cases r
    cases p
    exact ⟨_, _, [], [], .nil, .nil, (fun _ h => nomatch h), (fun _ h => nomatch h), by simp only [List.map_nil, PyData.shownAll]; exact .nil, by simp only [List.map_nil, PyData.shownAll]; exact .nil⟩
  | _, _, _, _, .cons (i := i) (q := q) (qs := qs) h hr, r, p, hs1, hs2, hz1, hz2 => by
    cases r with
    | cons r1 r2 =>
      cases p with
      | cons p1 p2 p3 =>
        rename_i kv ws e es
        obtain ⟨e1, e2⟩ := r1
        have p1' : keyIs kv.1 e.key = true := p1
        rw [← e1] at p1'
        obtain ⟨t, ht⟩ := Value.isInt_shape (k := i) (v := e.key) p1'
        rw [← p2] at e2
        simp only [List.map_cons] at hs1 hs2 hz1 hz2 ⊢
        have s1 : (PyData.int i).showable = true ∧ PyData.showableAll (qs.map (·.1)) = true := by simpa [PyData.showableAll] using hs1
        have s2 : q.showable = true ∧ PyData.showableAll (qs.map (·.2)) = true := by simpa [PyData.showableAll] using hs2
        obtain ⟨a1, b1, q1, hb1, k1⟩ := rx_of I h e2 s2.1 (hz2 _ (by simp only [PyData.shownAll]; exact List.mem_cons_self ..))
        obtain ⟨as, bs, c1, c2, x1, x2, x3, x4, x5, x6⟩ := rxk_of I hr r2 p3 s1.2 s2.2 (fun t ht => hz1 t (by simp only [PyData.shownAll]; exact List.mem_cons_of_mem _ ht)) (fun t ht => hz2 t (by simp only [PyData.shownAll]; exact List.mem_cons_of_mem _ ht))
        have ki : ReprK X.prog X.w c1 s.heap (PyData.int i).depth e.key (PyData.int i).shown := by
          rw [ht]
          simp only [PyData.shown]
          exact .of_is (ReprIs.int t (by simpa [PyData.showable] using s1.1)) _ _ _
        refine ⟨_, _, c1, b1 ++ c2, .cons (by rw [ht]; exact .int i t) x1, .cons q1 x2, x3.mono (by simp only [PyData.depthAll]; exact Nat.le_max_right _ _),
          (hb1.mono (by simp only [PyData.depthAll]; exact Nat.le_max_left _ _)).append (x4.mono (by simp only [PyData.depthAll]; exact Nat.le_max_right _ _)), ?_, ?_⟩
        · simp only [PyData.depthAll, PyData.shownAll]
          exact .cons (ki.level_le (Nat.le_max_left _ _)) (x5.more_le (fun b hb => hb) (Nat.le_max_right _ _))
        · simp only [PyData.depthAll, PyData.shownAll]
          exact .cons ((k1.more fun b hb => List.mem_append_left _ hb).level_le (Nat.le_max_left _ _)) (x6.more_le (fun b hb => List.mem_append_right _ hb) (Nat.le_max_right _ _))
end
end
/-- repr(x) of data of any kind -/
def rReprX : List V → Hp → VK → Prop := fun vs H Q => ∃ (v : V) (u d : Addr) (q : PyData), vs = [v] ∧ DX u d H v q ∧ q.showable = true ∧ q.shown.length ≤ sizeLine ∧ q.depth ≤ 50 ∧ Q (.str q.shown) H
theorem call_reprX {X : Cx} (hG : X.A.guards = some []) (hr : X.A.units + 64 < cLine) : CallR X (.builtin "repr") rReprX := by
  intro pins s σ H vs us Q I r h
  obtain ⟨v, u, d, q, rfl, hd, hs, hz, hdp, k⟩ := h
  obtain ⟨x, rfl, rv⟩ := vals1 r
  have fin : ∀ (h' : Heap) (t : Tok) (tk : Nat), (∀ b o, s.heap.get? b = some o → h'.get? b = some o) → EP X pins σ Q (.str q.shown t) { s with heap := h', toks := tk } := fun h' t tk hk => ⟨.str _, H, I.kept hk, ⟨_, rfl⟩, k⟩
  cases hd with
  | non =>
    cases rv
    refine PySem.P.repr_of_none ?_
    simp only [PyData.shown] at fin
    exact fin s.heap _ _ fun _ _ e => e
  | bl b =>
    cases rv
    refine PySem.P.repr_of_bool ?_
    simp only [PyData.shown] at fin
    exact fin s.heap _ _ fun _ _ e => e
  | int i =>
    obtain ⟨t, rfl⟩ := rv
    refine PySem.P.repr_of_int (by simpa [PyData.showable] using hs) ?_
    simp only [PyData.shown] at fin
    exact fin s.heap _ _ fun _ _ e => e
  | str y =>
    obtain ⟨t, rfl⟩ := rv
    simp only [PyData.shown] at fin hz
    exact PySem.P.repr_of_str (fin s.heap _ _ fun _ _ e => e) hz
  | @lst a xs qs _ _ hl hd =>
    cases rv
    have hz' : (listText (PyData.shownAll qs)).length ≤ sizeLine := by simpa only [PyData.shown] using hz
    obtain ⟨_, its, n, rv, h1⟩ := (show ObjOk X.prog X.w H s.heap a (.lst _) from I.hok a _ hl)
    obtain ⟨as, bs, hr', hb, hk⟩ := rxs_of I hd rv (by simpa [PyData.showable] using hs) (fun t ht => Nat.le_trans (listText_mem_le ht) hz')
    have rr : Reads s.heap (.ref a) (.list qs) _ := .list h1 rfl rfl hr'
    have hna : a ∉ bs := not_mem_of_deeper rr (by simp only [PyData.depth]; omega) hb
    simp only [PyData.depth] at hdp
    simp only [PyData.shown] at fin
    refine call_repr_slot (by omega) ⟨_, h1, rfl⟩ F.slot_list_repr.toG ?_
    cases its with
    | nil =>
      cases hr'
      simp only [PyData.shownAll, listText_nil] at fin
      exact call_list_repr_empty ⟨_, h1, rfl⟩ h1 rfl ⟨_, _, rfl, fin s.heap _ _ fun _ _ e => e⟩
    | cons x l =>
      exact call_list_reprK h1 rfl rfl hna (by simpa using hk.length_eq) (fun i y e => hk.item i y (by simpa using e)) hG (fun b _ => Clear.nil b) (by show X.A.units + 1 + _ < _; omega) (fun _ _ e => e) (fun h' u tk hk => ⟨_, _, rfl, fin h' u tk hk⟩) hz'
  | @tup a xs qs _ _ hl hd =>
    cases rv
    have hz' : (tupleText (PyData.shownAll qs)).length ≤ sizeLine := by simpa only [PyData.shown] using hz
    obtain ⟨_, its, rv, o, h1, h2, n, h3⟩ := (show ObjOk X.prog X.w H s.heap a (.tup _) from I.hok a _ hl)
    obtain ⟨as, bs, hr', hb, hk⟩ := rxs_of I hd rv (by simpa [PyData.showable] using hs) (fun t ht => Nat.le_trans (tupleText_mem_le ht) hz')
    have rr : Reads s.heap (.ref a) (.tuple qs) _ := .tuple h1 h2 h3 hr'
    have hna : a ∉ bs := not_mem_of_deeper rr (by simp only [PyData.depth]; omega) hb
    simp only [PyData.depth] at hdp
    simp only [PyData.shown] at fin
    refine call_repr_slot (by omega) ⟨o, h1, h2⟩ F.slot_tuple_repr ?_
    exact call_tuple_reprK h1 h2 h3 hna hk hG (fun b _ => Clear.nil b) (by show X.A.units + 1 + _ < _; omega) (fun _ _ e => e) (fun h' u tk hk => ⟨_, _, rfl, fin h' u tk hk⟩) hz'
  | @dic a kvs qs _ _ hl hd =>
    cases rv
    have hz' : (dictText (PyData.shownKv qs)).length ≤ sizeLine := by simpa only [PyData.shown] using hz
    obtain ⟨_, hsys, ws, kv, o, es, ep, h1, h2, h3, h4, h5, h6⟩ := (show ObjOk X.prog X.w H s.heap a (.dK _) from I.hok a _ hl)
    obtain ⟨hs1, hs2⟩ := PyData.showableKv_split qs (by simpa [PyData.showable] using hs)
    obtain ⟨as, bs, b1, b2, r1, r2, hb1, hb2, k1, k2⟩ := rxk_of I hd kv h5 hs1 hs2 (fun t ht => let ⟨p, hp, hl⟩ := PyData.shownKv_key_le qs t ht; Nat.le_trans hl (Nat.le_trans (dictText_mem_le hp) hz'))
      (fun t ht => let ⟨p, hp, hl⟩ := PyData.shownKv_val_le qs t ht; Nat.le_trans hl (Nat.le_trans (dictText_mem_le hp) hz'))
    have rr : Reads s.heap (.ref a) (.dict qs) _ := .dict h1 h2.1 h3 r1 r2
    have hb : ReadAtMost s.heap (PyData.depthKv qs) (b1 ++ b2) := (hb1.mono (PyData.depthAll_keys_le qs)).append (hb2.mono (PyData.depthAll_vals_le qs))
    have hna : a ∉ b1 ++ b2 := not_mem_of_deeper rr (by simp only [PyData.depth]; omega) hb
    simp only [PyData.depth] at hdp
    simp only [PyData.shown] at fin
    rw [PyData.shownKv_eq] at hz' fin
    refine call_repr_slot (by omega) ⟨o, h1, h2.1⟩ F.slot_dict_repr ?_
    exact call_dict_reprK h1 h2.1 h3 hsys hna (ReprEntriesK.of_two es.toList _ _
      (k1.more_le (fun b hb => List.mem_append_left _ hb) (PyData.depthAll_keys_le qs)) (k2.more_le (fun b hb => List.mem_append_right _ hb) (PyData.depthAll_vals_le qs))) hG (fun b _ => Clear.nil b) (by show X.A.units + 1 + _ < _; omega) (fun _ _ e => e) (fun h' u tk hk => ⟨_, _, rfl, fin h' u tk hk⟩) hz'
/-! ### isinstance -/
def isTupD : PyData → Bool
  | .tuple _ => true
  | _ => false
def isIntD : PyData → Bool
  | .int _ | .bool _ => true
  | _ => false
def isBlD : PyData → Bool
  | .bool _ => true
  | _ => false
def rIsX (T : String) (g : PyData → Bool) : List V → Hp → VK → Prop := fun vs H Q => ∃ (v : V) (u d : Addr) (q : PyData), vs = [v, .ty T] ∧ DX u d H v q ∧ Q (.bl (g q)) H
theorem call_isX {X : Cx} {T : String} {g : PyData → Bool} (hn : kitB "NoneType" T = some (g .none)) (hb : ∀ b, kitB "bool" T = some (g (.bool b))) (hi : ∀ i, kitB "int" T = some (g (.int i))) (hs : ∀ x, kitB "str" T = some (g (.str x)))
    (hl : ∀ x, kitB "list" T = some (g (.list x))) (ht : ∀ x, kitB "tuple" T = some (g (.tuple x))) (hd : ∀ x, kitB "dict" T = some (g (.dict x))) : CallR X (.builtin "isinstance") (rIsX T g) := by
  intro pins s σ H vs us Q I r h
  obtain ⟨v, u, d, q, rfl, hx, k⟩ := h
  refine call_isi pins s σ H _ us Q I r ?_
  cases hx with
  | non => exact ⟨_, _, _, _, _, rfl, .ty T, .base .non, kit_ty hn, k⟩
  | bl b => exact ⟨_, _, _, _, _, rfl, .ty T, .base (.bl b), kit_ty (hb b), k⟩
  | int i => exact ⟨_, _, _, _, _, rfl, .ty T, .base (.int i), kit_ty (hi i), k⟩
  | str x => exact ⟨_, _, _, _, _, rfl, .ty T, .base (.str x), kit_ty (hs x), k⟩
  | lst _ _ e _ => exact ⟨_, _, _, _, _, rfl, .ty T, .base (.lst e), kit_ty (hl _), k⟩
  | tup _ _ e _ => exact ⟨_, _, _, _, _, rfl, .ty T, .base (.tup e), kit_ty (ht _), k⟩
  | dic _ _ e _ => exact ⟨_, _, _, _, _, rfl, .ty T, .base (.dK e), kit_ty (hd _), k⟩
theorem call_isTup {X : Cx} : CallR X (.builtin "isinstance") (rIsX "tuple" isTupD) := call_isX (show kitB "NoneType" "tuple" = some false by decide +kernel) (fun _ => show kitB "bool" "tuple" = some false by decide +kernel) (fun _ => show kitB "int" "tuple" = some false by decide +kernel) (fun _ => show kitB "str" "tuple" = some false by decide +kernel) (fun _ => show kitB "list" "tuple" = some false by decide +kernel) (fun _ => show kitB "tuple" "tuple" = some true by decide +kernel) (fun _ => show kitB "dict" "tuple" = some false by decide +kernel)
theorem call_isInt {X : Cx} : CallR X (.builtin "isinstance") (rIsX "int" isIntD) := call_isX (show kitB "NoneType" "int" = some false by decide +kernel) (fun _ => show kitB "bool" "int" = some true by decide +kernel) (fun _ => show kitB "int" "int" = some true by decide +kernel) (fun _ => show kitB "str" "int" = some false by decide +kernel) (fun _ => show kitB "list" "int" = some false by decide +kernel) (fun _ => show kitB "tuple" "int" = some false by decide +kernel) (fun _ => show kitB "dict" "int" = some false by decide +kernel)
theorem call_isBl {X : Cx} : CallR X (.builtin "isinstance") (rIsX "bool" isBlD) := call_isX (show kitB "NoneType" "bool" = some false by decide +kernel) (fun _ => show kitB "bool" "bool" = some true by decide +kernel) (fun _ => show kitB "int" "bool" = some false by decide +kernel) (fun _ => show kitB "str" "bool" = some false by decide +kernel) (fun _ => show kitB "list" "bool" = some false by decide +kernel) (fun _ => show kitB "tuple" "bool" = some false by decide +kernel) (fun _ => show kitB "dict" "bool" = some false by decide +kernel)
end RZ

/-! what does not speak of one law: data, sizes, comprehensions, new data, calls by name, the urn's keeping -/
namespace U
open PySem L2 RW RZ PySem.RW
def nv : Option Int → V
  | none => .non
  | some i => .int i
theorem nv_none (o : Option Int) : decide (nv o = V.non) = o.isNone := by cases o <;> rfl
/-- what a comprehension keeps: all that stood, and the list at D -/
def LcI (H0 : Hp) (D : Addr) (out : Nat → List V) : Nat → Hp → Prop := fun i H => Same H0 H ∧ H D = some (.lst (out i))
theorem Same.fresh {H H' : Hp} {p : Addr} {o : HO} (S : Same H H') (h : H' p = none) : Same H (upd H' p o) := fun b u e => by
  have h1 := S b u e
  rw [upd_ne (ne_of_none h1 h)]
  exact h1
theorem lcI_start {H : Hp} {D : Addr} {out : Nat → List V} (hD : H D = none) (h : out 0 = []) : LcI H D out 0 (upd H D (.lst [])) := ⟨Same.fresh (Same.refl H) hD, by rw [h]; exact upd_same⟩
theorem LcI.put {H0 H : Hp} {D : Addr} {out : Nat → List V} {i : Nat} {y : V} (hD : H0 D = none) (I : LcI H0 D out i H) (h : out (i + 1) = out i ++ [y]) : LcI H0 D out (i + 1) (upd H D (.lst (out i ++ [y]))) :=
  ⟨fun b u e => by rw [upd_ne (ne_of_none e hD)]; exact I.1 b u e, by rw [h]; exact upd_same⟩
theorem LcI.skip {H0 H : Hp} {D : Addr} {out : Nat → List V} {i : Nat} (I : LcI H0 D out i H) (h : out (i + 1) = out i) : LcI H0 D out (i + 1) H := ⟨I.1, by rw [h]; exact I.2⟩
theorem take_one {α : Type} {l : List α} {i : Nat} {x : α} (h : l[i]? = some x) : l.take (i + 1) = l.take i ++ [x] := by
  obtain ⟨hi, e⟩ := List.getElem?_eq_some_iff.mp h
  rw [List.take_succ_eq_append_getElem hi, e]
theorem map_at {α : Type} {g : α → V} {xs : List α} {i : Nat} {v : V} (h : (xs.map g)[i]? = some v) : ∃ x, xs[i]? = some x ∧ v = g x := by
  rw [List.getElem?_map] at h
  cases e : xs[i]? with
  | none => rw [e] at h; cases h
  | some x => rw [e] at h; exact ⟨x, rfl, (Option.some.inj h).symm⟩
theorem Same.sqT {K : PySem.W.Frag} {H H' : Hp} {a : Addr} {xs : List V} (e : Same H H') (h : SqT K H a xs) : SqT K H' a xs := by
  rcases h with (h | ⟨o, h⟩) | h
  · exact .inl (.inl (e _ _ h))
  · exact .inl (.inr ⟨o, e _ _ h⟩)
  · exact .inr h
theorem LcI.go {H0 H H' : Hp} {D : Addr} {out : Nat → List V} {i : Nat} (I : LcI H0 D out i H) (S : Same H H') : LcI H0 D out i H' := ⟨I.1.trans S, S _ _ I.2⟩
theorem LcI.fin {H0 H : Hp} {D : Addr} {out : Nat → List V} {i : Nat} {l : List V} (I : LcI H0 D out i H) (h : out i = l) : H D = some (.lst l) := by rw [← h]; exact I.2
structure Cal (P : Program) (w : World) (K : PySem.W.Frag) (mg : Str → Option Value) (base : Heap) (x : Str) (k : Nat) (ps : List Str) (sp : Sp) : Prop where
  ex : ∃ f fd, FnOk P w K mg base CX0 k f fd ps sp ∧ mg x = some (.ref f) ∧ PySem.W.keepIn K (.ref f) = true ∧ Binds K fd ps []
structure Bl (mg : Str → Option Value) : Prop where
  len : mg "len" = none
  tuple : mg "tuple" = none
  all_ : mg "all" = none
  any : mg "any" = none
  isinstance : mg "isinstance" = none
  repr : mg "repr" = none
  list_ : mg "list" = none
  sum : mg "sum" = none
  abs : mg "abs" = none
  int_ : mg "int" = none
  range : mg "range" = none
  zip : mg "zip" = none
  enumerate : mg "enumerate" = none
  min : mg "min" = none
  max : mg "max" = none
  str_ : mg "str" = none
  bool_ : mg "bool" = none
  sorted : mg "sorted" = none
  set_ : mg "set" = none
  dict_ : mg "dict" = none
  reversed : mg "reversed" = none
  type_ : mg "type" = none
theorem yes_ {σ : L2.St} {H : Hp} {A B : Hp → Prop} (h : A H) : tYes σ H (fun b H3 => if b = true then A H3 else B H3) := iteT (B := B H) h
theorem take_map {α β : Type} (g : α → β) {xs : List α} {i : Nat} {x : α} (h : xs[i]? = some x) : (xs.take (i + 1)).map g = (xs.take i).map g ++ [g x] := by rw [take_one h]; simp
structure UrnAt (H : Hp) (u d m : Addr) : Prop where
  ex : ∃ (ds ms : List Int) (sm n : Int), H u = some (.lst [.ref d, .ref m, .int sm, .int n]) ∧ H d = some (.lst (ds.map V.int)) ∧ H m = some (.lst (ms.map V.int)) ∧ ms ≠ []
  dm : d ≠ m
theorem UrnAt.same {H H' : Hp} {u d m : Addr} (U : UrnAt H u d m) (S : Same H H') : UrnAt H' u d m := by
  obtain ⟨⟨ds, ms, sm, n, h1, h2, h3, h4⟩, h5⟩ := U
  exact ⟨⟨ds, ms, sm, n, S _ _ h1, S _ _ h2, S _ _ h3, h4⟩, h5⟩
theorem lst_ne {H : Hp} {u d m : Addr} {x y z : V} {ds : List Int} (h1 : H u = some (.lst [.ref d, x, y, z])) (h2 : H m = some (.lst (ds.map V.int))) : u ≠ m := fun e => by
  rw [e, h2] at h1
  cases ds with
  | nil => cases h1
  | cons a r => cases h1
def pd : Option Int → PyData
  | none => .none
  | some i => .int i
theorem dpN {K : PySem.W.Frag} {H : Hp} : ∀ xs : List (Option Int), DpAll K H (xs.map nv) (xs.map pd)
  | [] => .nil
  | none :: r => .cons .non (dpN r)
  | some i :: r => .cons (.int i) (dpN r)
theorem dpI {K : PySem.W.Frag} {H : Hp} : ∀ xs : List Int, DpAll K H (xs.map V.int) (xs.map PyData.int)
  | [] => .nil
  | i :: r => .cons (.int i) (dpI r)
theorem layI : ∀ xs : List Int, PyData.canLayAll0 (xs.map PyData.int) = true ∧ PyData.depthAll (xs.map PyData.int) = 0
  | [] => ⟨by simp [PyData.canLayAll0], by simp [PyData.depthAll]⟩
  | i :: r => by
    obtain ⟨h1, h2⟩ := layI r
    exact ⟨by simp [PyData.canLayAll0, PyData.canLay0, h1], by simp [PyData.depthAll, PyData.depth, h2]⟩
theorem layN_ : ∀ xs : List (Option Int), PyData.canLayAll0 (xs.map pd) = true ∧ PyData.depthAll (xs.map pd) = 0
  | [] => ⟨by simp [PyData.canLayAll0], by simp [PyData.depthAll]⟩
  | none :: r => by
    obtain ⟨h1, h2⟩ := layN_ r
    exact ⟨by simp [PyData.canLayAll0, PyData.canLay0, pd, h1], by simp [PyData.depthAll, PyData.depth, pd, h2]⟩
  | some i :: r => by
    obtain ⟨h1, h2⟩ := layN_ r
    exact ⟨by simp [PyData.canLayAll0, PyData.canLay0, pd, h1], by simp [PyData.depthAll, PyData.depth, pd, h2]⟩
theorem shapedI (xs : List Int) : SeqAt.shaped (.list (xs.map PyData.int)) = true := by
  obtain ⟨h1, h2⟩ := layI xs
  simp [SeqAt.shaped, PyData.canLay0, PyData.depth, h1, h2]
theorem shapedT (xs : List (Option Int)) : SeqAt.shaped (.tuple (xs.map pd)) = true := by
  obtain ⟨h1, h2⟩ := layN_ xs
  simp [SeqAt.shaped, PyData.canLay0, PyData.depth, h1, h2]
theorem shapedL (xs : List (Option Int)) : SeqAt.shaped (.list (xs.map pd)) = true := by
  obtain ⟨h1, h2⟩ := layN_ xs
  simp [SeqAt.shaped, PyData.canLay0, PyData.depth, h1, h2]
theorem ix0 {n : Nat} (h : 0 < n) : ixN n 0 = some 0 := by
  unfold ixN
  rw [if_pos (Int.le_refl 0), if_pos (by omega)]
  rfl
theorem sx0 {n : Nat} (h : 0 < n) : seqIndex? 0 n = some 0 := (ixN_seq (ix0 h)).1
theorem fmod_ix {a : Int} {n : Nat} (h : 0 < n) : ∃ j : Nat, j < n ∧ a.fmod (n : Int) = (j : Int) := by
  rw [Int.fmod_eq_emod_of_nonneg _ (by omega)]
  have h1 := Int.emod_nonneg a (show (n : Int) ≠ 0 by omega)
  have h2 := Int.emod_lt_of_pos a (show (0 : Int) < n by omega)
  exact ⟨(a % (n : Int)).toNat, by omega, by omega⟩
theorem fmod_rng {a p : Int} (h : 0 < p) : 0 ≤ a.fmod p ∧ a.fmod p < p := by
  rw [Int.fmod_eq_emod_of_nonneg _ (by omega)]
  exact ⟨Int.emod_nonneg a (by omega), Int.emod_lt_of_pos a h⟩
theorem map_set {α β : Type} (g : α → β) (l : List α) (i : Nat) (y : α) : (l.map g).set i (g y) = (l.set i y).map g := by rw [List.map_set]
def spTake : Sp := fun vs H Q _ => ∃ (u d m : Addr) (size : Int), vs = [.ref u, .int size] ∧ 0 < size ∧ size < 1073741824 ∧ UrnAt H u d m ∧ ∀ H' r, 0 ≤ r → r < size → UrnAt H' u d m → Off u d H H' → Q (.int r) H'

/-- a comprehension that makes a list of ints -/
def LcZ (H0 : Hp) (D : Addr) : Nat → Hp → Prop := fun i H => Same H0 H ∧ ∃ ds : List Int, ds.length ≤ i ∧ H D = some (.lst (ds.map V.int))
theorem lcZ_start {H : Hp} {D : Addr} (hD : H D = none) : LcZ H D 0 (upd H D (.lst [])) := ⟨Same.fresh (Same.refl H) hD, [], Nat.le_refl _, upd_same⟩
theorem LcZ.put {H0 H : Hp} {D : Addr} {i : Nat} {ds : List Int} {y : Int} (hD : H0 D = none) (S : Same H0 H) (hl : ds.length ≤ i) : LcZ H0 D (i + 1) (upd H D (.lst (ds.map V.int ++ [.int y]))) :=
  ⟨fun b u e => by rw [upd_ne (ne_of_none e hD)]; exact S b u e, ds ++ [y], by simp; omega, by rw [upd_same, List.map_append]; rfl⟩
theorem LcZ.skip {H0 H : Hp} {D : Addr} {i : Nat} (I : LcZ H0 D i H) : LcZ H0 D (i + 1) H := ⟨I.1, let ⟨ds, h, e⟩ := I.2; ⟨ds, Nat.le_succ_of_le h, e⟩⟩
theorem cut63 (ns : List Int) : ∃ cs : List Int, cs.length ≤ 63 ∧ cutV (ns.map V.int) none (some 63) = cs.map V.int := by
  refine ⟨(ns.drop (HT.sIx (ns.map V.int).length 0 none)).take (HT.sIx (ns.map V.int).length (ns.map V.int).length (some 63) - HT.sIx (ns.map V.int).length 0 none), ?_, ?_⟩
  · rw [List.length_take]
    have : HT.sIx (ns.map V.int).length (ns.map V.int).length (some 63) = min 63 (ns.map V.int).length := HT.sIx_nat _ _ 63
    rw [this]
    omega
  · unfold cutV
    rw [List.map_take, List.map_drop]
def spUrn (K : PySem.W.Frag) : Sp := fun vs H Q _ => ∃ (a : Addr) (ns : List Int), vs = [.ref a] ∧ SqL K H a (ns.map V.int) ∧ ∀ H' u d m, Same H H' → UrnAt H' u d m → Q (.ref u) H'

theorem tup_ne {H : Hp} {u d m p : Addr} {xs : List V} (U : UrnAt H u d m) (h : H p = some (.tup xs)) : p ≠ u ∧ p ≠ d := by
  obtain ⟨⟨ds, ms, sm, n, h1, h2, _⟩, _⟩ := U
  exact ⟨ne_of h h1 (by intro z; cases z), ne_of h h2 (by intro z; cases z)⟩
theorem Off.tup {H H' : Hp} {u d m p : Addr} {xs : List V} (O : Off u d H H') (U : UrnAt H u d m) (h : H p = some (.tup xs)) : H' p = some (.tup xs) := O _ _ (tup_ne U h).1 (tup_ne U h).2 h
theorem UrnAt.nfree {H : Hp} {u d m p : Addr} (U : UrnAt H u d m) (h : H p = none) : p ≠ u ∧ p ≠ d := by
  obtain ⟨⟨ds, ms, sm, n, h1, h2, _⟩, _⟩ := U
  exact ⟨fun e => (by rw [e, h1] at h; cases h), fun e => (by rw [e, h2] at h; cases h)⟩
theorem UrnAt.fresh {H : Hp} {u d m p : Addr} {o : HO} (U : UrnAt H u d m) (h : H p = none) : UrnAt (upd H p o) u d m := U.same (Same.fresh (Same.refl _) h)
theorem Off.fresh {H0 H : Hp} {u d p : Addr} {o : HO} (O : Off u d H0 H) (h : H p = none) : Off u d H0 (upd H p o) := O.trans (Same.off (Same.fresh (Same.refl _) h))
def spOne : Sp := fun vs H Q _ => ∃ (u d m l : Addr) (xs : List V), vs = [.ref u, .ref l] ∧ H l = some (.lst xs) ∧ l ≠ u ∧ l ≠ d ∧ 0 < xs.length ∧ xs.length < 1000 ∧ UrnAt H u d m ∧ ∀ H' v, v ∈ xs → UrnAt H' u d m → Off u d H H' → Q v H'
theorem UrnAt.nfreeM {H : Hp} {u d m p : Addr} (U : UrnAt H u d m) (h : H p = none) : p ≠ m := by
  obtain ⟨⟨ds, ms, sm, n, h1, h2, h3, _⟩, _⟩ := U
  exact fun e => (by rw [e, h3] at h; cases h)
theorem cut_lo {xs : List V} {j : Nat} (h : j ≤ xs.length) : cutV xs none (some (j : Int)) = xs.take j := by
  unfold cutV
  rw [HT.sIx_none, HT.sIx_nat, Nat.min_eq_left h]
  rfl
theorem cut_hi {xs : List V} {j : Nat} (h : j < xs.length) : cutV xs (some ((j : Int) + 1)) none = xs.drop (j + 1) := by
  unfold cutV
  have e : HT.sIx xs.length 0 (some ((j : Int) + 1)) = j + 1 := by
    have := HT.sIx_nat xs.length 0 (j + 1)
    rw [show (((j + 1 : Nat) : Int)) = (j : Int) + 1 by omega] at this
    rw [this, Nat.min_eq_left (by omega)]
  rw [e, HT.sIx_none]
  apply List.take_of_length_le
  rw [List.length_drop]
  exact Nat.le_refl _
theorem pe_imp {X : Cx} {e : Expr} {t S : TE} (h : PE X e t) (hs : ∀ σ H Q, S σ H Q → t σ H Q) : PE X e S := ⟨fun pins s σ H Q I q => h.run pins s σ H Q I (hs σ H Q q)⟩
section
variable {X : Cx} {CX : CXT} {k : Nat} {f : Addr} {fd : FuncData} {ps ks : List Str} {sp : Sp} {E : XK} {x : Str} {p pos : Pos} {kws : List Keyword} {tk : TA} {g : List Value → List Value → List Value} {gV : List V → List V → List V}
theorem pe_callK0 (F : FnOk X.prog X.w X.K X.mg X.base CX k f fd ps sp) (hr : Room k X.A) (hg : Gl X x) (hm : X.mg x = some (.ref f)) (hk : PySem.W.keepIn X.K (.ref f) = true) (hb : KBinds X.K fd ps ks g gV) (hx : Passes CX X E)
    (hkw : PK X kws tk) (hall : (backToKw pos (keywordEach kws X.env)).all (·.1.isSome) = true := by rfl) (hks : (backToKw pos (keywordEach kws X.env)).filterMap (·.1) = ks := by rfl)
    (hdb : (x == ("__debug__" : Str)) = false := by decide)
    (hpl : ((backTo pos (starEach [] X.env)).any (·.1) || (backToKw pos (keywordEach kws X.env)).any (·.1.isNone)) = false := by rfl) :
    PE X (.Call (.Name x p) [] kws pos) (tCallK sp gV E tNil tk) := by
  refine ⟨fun pins s σ H Q I h => ?_⟩
  refine wpAny_Call_Name_kw (ld_glob I hg hm ?_ hdb)
  refine PySem.W.callWith_KW0 (h₀ := X.base) I.ok.mod.kin hk hall ?_ hpl
  refine thn (hkw.run pos pins s σ H _ I h) fun ws s2 ⟨zs, H2, I2, rz, q2⟩ => ⟨I2.kIn, ?_⟩
  rw [hks]
  exact run_fnk F hr hb hx I2 .nil rz q2
end
def g1 {α : Type} : List α → List α → List α
  | [], [a] => [a]
  | _, _ => []
def g2 {α : Type} : List α → List α → List α
  | [], [a, b] => [a, b]
  | _, _ => []
def g2s {α : Type} : List α → List α → List α
  | [], [a, b] => [b, a]
  | _, _ => []
structure CalK (P : Program) (w : World) (K : PySem.W.Frag) (mg : Str → Option Value) (base : Heap) (x : Str) (k : Nat) (ps ks : List Str) (g : List Value → List Value → List Value) (gV : List V → List V → List V) (sp : Sp) : Prop where
  ex : ∃ f fd, FnOk P w K mg base CX0 k f fd ps sp ∧ mg x = some (.ref f) ∧ PySem.W.keepIn K (.ref f) = true ∧ KBinds K fd ps ks g gV
theorem kb1 {K : PySem.W.Frag} {x qual a : Str} {st : Stmt} {f : Addr} {fd : FuncData} (F : Fun K x qual st f fd)
    (h : ∀ (kV doc pm : Value) (an : Option Addr) (cdv ct : Value) (u : Value), bindArgs (PySem.W.fnOf x qual (defArgs st) (defBody st) (defScope st) .none kV doc pm an cdv ct) ⟨[], [(a, u)]⟩ = pure [(a, u)]) : KBinds K fd [a] [a] g1 g1 := by
  obtain ⟨oc, od, kV, doc, pm, an, cdv, ct, osl, rfl, lk, hcd⟩ := F.ex
  refine ⟨fun s us ws _ hl => ?_, fun {vs us zs ws} r rz => ?_⟩
  · match us, ws, hl with
    | [], [u], _ => exact .of_eq (h kV doc pm an cdv ct u)
  · cases r with
    | nil =>
      cases rz with
      | nil => exact .nil
      | cons a b => cases b with
        | nil => exact .cons a .nil
        | cons c d => exact .nil
    | cons a b => exact .nil
theorem kb2 {K : PySem.W.Frag} {x qual a b : Str} {st : Stmt} {f : Addr} {fd : FuncData} (F : Fun K x qual st f fd)
    (h : ∀ (kV doc pm : Value) (an : Option Addr) (cdv ct : Value) (u v : Value), bindArgs (PySem.W.fnOf x qual (defArgs st) (defBody st) (defScope st) .none kV doc pm an cdv ct) ⟨[], [(a, u), (b, v)]⟩ = pure [(a, u), (b, v)]) : KBinds K fd [a, b] [a, b] g2 g2 := by
  obtain ⟨oc, od, kV, doc, pm, an, cdv, ct, osl, rfl, lk, hcd⟩ := F.ex
  refine ⟨fun s us ws _ hl => ?_, fun {vs us zs ws} r rz => ?_⟩
  · match us, ws, hl with
    | [], [u, v], _ => exact .of_eq (h kV doc pm an cdv ct u v)
  · cases r with
    | nil =>
      cases rz with
      | nil => exact .nil
      | cons a b => cases b with
        | nil => exact .nil
        | cons c d => cases d with
          | nil => exact .cons a (.cons c .nil)
          | cons e f => exact .nil
    | cons a b => exact .nil
theorem kb2s {K : PySem.W.Frag} {x qual a b : Str} {st : Stmt} {f : Addr} {fd : FuncData} (F : Fun K x qual st f fd)
    (h : ∀ (kV doc pm : Value) (an : Option Addr) (cdv ct : Value) (u v : Value), bindArgs (PySem.W.fnOf x qual (defArgs st) (defBody st) (defScope st) .none kV doc pm an cdv ct) ⟨[], [(b, u), (a, v)]⟩ = pure [(a, v), (b, u)]) : KBinds K fd [a, b] [b, a] g2s g2s := by
  obtain ⟨oc, od, kV, doc, pm, an, cdv, ct, osl, rfl, lk, hcd⟩ := F.ex
  refine ⟨fun s us ws _ hl => ?_, fun {vs us zs ws} r rz => ?_⟩
  · match us, ws, hl with
    | [], [u, v], _ => exact .of_eq (h kV doc pm an cdv ct u v)
  · cases r with
    | nil =>
      cases rz with
      | nil => exact .nil
      | cons a b => cases b with
        | nil => exact .nil
        | cons c d => cases d with
          | nil => exact .cons c (.cons a .nil)
          | cons e f => exact .nil
    | cons a b => exact .nil


theorem small6 {n : Nat} (h : n ≤ 2000000) : n < sizeLine := by rw [sizeLine_eq]; omega
abbrev big : Int := 1000000000000000000000000000000
theorem ite_bool {α : Prop} {b : Bool} {x y : Prop} (h : if b = true then x else y) : (b = true → x) ∧ (b = false → y) := by cases b <;> simp_all
theorem iteB {b : Bool} {x y : Prop} (h1 : b = true → x) (h2 : b = false → y) : if b = true then x else y := by cases b <;> simp_all
section
variable {X : Cx} {x : Str} {pos : Pos}
theorem pe_ty (T : String) (hg : Gl X x) (hm : X.mg x = none) (hv : bootBuiltins x = some (.type T)) (hn : x ≠ "__name__" := by decide) (hd : (x == ("__debug__" : Str)) = false := by decide) : PE X (.Name x pos) (tC (.ty T)) := pe_bltn hg hm hv rfl hn hd
end
section
variable {P : Program} {w : World} {K : PySem.W.Frag} {mg : Str → Option Value} {base : Heap}
def lenD : PyData → Nat
  | .tuple qs => qs.length
  | .list qs => qs.length
  | _ => 0
end

mutual
/-- no less than the length of what is shown -/
def sz : PyData → Nat
  | .none | .bool _ => 6
  | .int _ => 2000
  | .str x => (reprText x).length + 6
  | .list qs | .tuple qs => 6 + szs qs
  | .dict kvs => 6 + szk kvs
def szs : List PyData → Nat
  | [] => 0
  | q :: qs => sz q + 6 + szs qs
def szk : List (PyData × PyData) → Nat
  | [] => 0
  | (k, v) :: r => sz k + sz v + 6 + szk r
end
theorem szs_append : ∀ a b : List PyData, szs (a ++ b) = szs a + szs b
  | [], b => by simp [szs]
  | x :: a, b => by simp only [List.cons_append, szs, szs_append a b]; omega
theorem szs_len : ∀ a : List PyData, 6 * a.length ≤ szs a
  | [] => by simp [szs]
  | x :: a => by simp only [List.length_cons, szs]; have := szs_len a; omega
theorem szs_mem : ∀ {a : List PyData} {q : PyData}, q ∈ a → sz q + 6 ≤ szs a
  | x :: a, q, h => by
    simp only [szs]
    rcases List.mem_cons.mp h with rfl | h
    · omega
    · have := szs_mem h
      omega
theorem szs_take (a : List PyData) (n : Nat) : szs (a.take n) ≤ szs a := by
  have := szs_append (a.take n) (a.drop n)
  rw [List.take_append_drop] at this
  omega
theorem szs_drop (a : List PyData) (n : Nat) : szs (a.drop n) ≤ szs a := by
  have := szs_append (a.take n) (a.drop n)
  rw [List.take_append_drop] at this
  omega
theorem szs_rep (q : PyData) : ∀ n : Nat, szs (List.replicate n q) = n * (sz q + 6)
  | 0 => by simp [szs]
  | n + 1 => by rw [List.replicate_succ, szs, szs_rep q n, Nat.succ_mul]; omega
theorem showA_append : ∀ a b : List PyData, PyData.showableAll (a ++ b) = (PyData.showableAll a && PyData.showableAll b)
  | [], b => by simp [PyData.showableAll]
  | x :: a, b => by simp only [List.cons_append, PyData.showableAll, showA_append a b, Bool.and_assoc]
theorem showA_mem : ∀ {a : List PyData} {q : PyData}, q ∈ a → PyData.showableAll a = true → q.showable = true
  | x :: a, q, h, s => by
    simp only [PyData.showableAll, Bool.and_eq_true] at s
    rcases List.mem_cons.mp h with rfl | h
    · exact s.1
    · exact showA_mem h s.2
theorem showA_of : ∀ {a : List PyData}, (∀ q ∈ a, q.showable = true) → PyData.showableAll a = true
  | [], _ => rfl
  | x :: a, h => by
    simp only [PyData.showableAll, h x (List.mem_cons_self ..), Bool.true_and]
    exact showA_of fun q hq => h q (List.mem_cons_of_mem _ hq)
theorem depA_mem : ∀ {a : List PyData} {q : PyData}, q ∈ a → q.depth ≤ PyData.depthAll a
  | x :: a, q, h => by
    simp only [PyData.depthAll]
    rcases List.mem_cons.mp h with rfl | h
    · exact Nat.le_max_left _ _
    · exact Nat.le_trans (depA_mem h) (Nat.le_max_right _ _)
theorem depA_of {n : Nat} : ∀ {a : List PyData}, (∀ q ∈ a, q.depth ≤ n) → PyData.depthAll a ≤ n
  | [], _ => by simp [PyData.depthAll]
  | x :: a, h => by
    simp only [PyData.depthAll]
    exact Nat.max_le.mpr ⟨h x (List.mem_cons_self ..), depA_of fun q hq => h q (List.mem_cons_of_mem _ hq)⟩
theorem join2_len : ∀ ps : List Str, (Str.join ", " ps).length ≤ (ps.map (·.length)).sum + 2 * ps.length
  | [] => by simp [Str.join]; decide
  | [x] => by simp [Str.join]
  | x :: y :: r => by
    have := join2_len (y :: r)
    show (x ++ ", " ++ Str.join ", " (y :: r)).length ≤ _
    rw [strLen_append, strLen_append]
    have e : (", " : Str).length = 2 := by decide +kernel
    rw [e]
    simp only [List.map_cons, List.sum_cons, List.length_cons] at this ⊢
    omega
mutual
theorem sz_shown : ∀ q : PyData, q.showable = true → q.shown.length ≤ sz q
  | .none, _ => by simp only [PyData.shown, sz]; decide
  | .bool b, _ => by cases b <;> simp only [PyData.shown, sz] <;> decide
  | .int i, h => by
    have := int_text_length_le (k := 1920) (by decide) (by simpa [PyData.showable] using h)
    simp only [PyData.shown, sz]
    show (Str.ofString (toString i)).length ≤ 2000
    rw [ofString_length]
    omega
  | .str x, _ => by simp only [PyData.shown, sz]; omega
  | .list qs, h => by
    have h1 := szs_shown qs (by simpa [PyData.showable] using h)
    have := listText_len_le (PyData.shownAll qs)
    simp only [PyData.shown, sz]
    omega
  | .tuple qs, h => by
    have h1 := szs_shown qs (by simpa [PyData.showable] using h)
    have := tupleText_len_le (PyData.shownAll qs)
    simp only [PyData.shown, sz]
    omega
  | .dict kvs, h => by
    have h1 := szk_shown kvs (by simpa [PyData.showable] using h)
    have h2 := join2_len (PyData.shownKv kvs)
    simp only [PyData.shown, sz]
    unfold dictText
    rw [strLen_append, strLen_append]
    have e1 : ("{" : Str).length = 1 := by decide +kernel
    have e2 : ("}" : Str).length = 1 := by decide +kernel
    rw [e1, e2]
    omega
theorem szs_shown : ∀ qs : List PyData, PyData.showableAll qs = true → ((PyData.shownAll qs).map (·.length)).sum + 2 * (PyData.shownAll qs).length ≤ szs qs
  | [], _ => by simp [PyData.shownAll, szs]
  | q :: qs, h => by
    simp only [PyData.showableAll, Bool.and_eq_true] at h
    have h1 := sz_shown q h.1
    have h2 := szs_shown qs h.2
    simp only [PyData.shownAll, List.map_cons, List.sum_cons, List.length_cons, szs]
    omega
theorem szk_shown : ∀ kvs : List (PyData × PyData), PyData.showableKv kvs = true → ((PyData.shownKv kvs).map (·.length)).sum + 2 * (PyData.shownKv kvs).length ≤ szk kvs
  | [], _ => by simp [PyData.shownKv, szk]
  | (k, v) :: r, h => by
    simp only [PyData.showableKv, Bool.and_eq_true] at h
    have h1 := sz_shown k h.1.1
    have h2 := sz_shown v h.1.2
    have h3 := szk_shown r h.2
    have e : (": " : Str).length = 2 := by decide +kernel
    simp only [PyData.shownKv, List.map_cons, List.sum_cons, List.length_cons, szk, strLen_append]
    rw [e]
    omega
end
/-- small enough to be shown -/
structure Sm (q : PyData) : Prop where
  sh : q.showable = true
  sz : sz q ≤ 2000000
  dp : q.depth ≤ 20
theorem Sm.len {q : PyData} (h : Sm q) : q.shown.length ≤ sizeLine := Nat.le_of_lt (small6 (Nat.le_trans (sz_shown q h.sh) h.sz))
theorem lenD_sz (q : PyData) : lenD q ≤ sz q := by
  cases q <;> simp only [lenD, sz] <;> try omega
  · rename_i qs; have := szs_len qs; omega
  · rename_i qs; have := szs_len qs; omega
theorem Sm.mem {qs : List PyData} {q : PyData} (h : Sm (.tuple qs)) (hq : q ∈ qs) : Sm q := by
  obtain ⟨h1, h2, h3⟩ := h
  have s1 := szs_mem hq
  have s2 := depA_mem hq
  simp only [PyData.showable] at h1
  simp only [PyData.depth] at h3
  simp only [U.sz] at h2
  exact ⟨showA_mem hq h1, by omega, by omega⟩

def Bo (xs : List (Option Int)) : Prop := ∀ i, some i ∈ xs → -big ≤ i ∧ i ≤ big
theorem dxs_nv {u d : Addr} {H : Hp} : ∀ {xs : List (Option Int)} {vs : List V}, DXs u d H vs (xs.map pd) → vs = xs.map nv
  | [], _, h => by cases h; rfl
  | none :: xs, _, h => by
    cases h with
    | cons h1 h2 =>
      cases h1
      rw [dxs_nv h2]
      rfl
  | some i :: xs, _, h => by
    cases h with
    | cons h1 h2 =>
      cases h1
      rw [dxs_nv h2]
      rfl
theorem dxs_pd {u d : Addr} {H : Hp} : ∀ xs : List (Option Int), DXs u d H (xs.map nv) (xs.map pd)
  | [] => .nil
  | none :: xs => .cons .non (dxs_pd xs)
  | some i :: xs => .cons (.int i) (dxs_pd xs)
variable {P : Program} {w : World} {K : PySem.W.Frag} {mg : Str → Option Value} {base : Heap}
def intsOf (xs : List (Option Int)) : List Int := xs.filterMap id
/-- integers_of(numbers), numbers a list or a tuple -/
def spInts (K : PySem.W.Frag) : Sp := fun vs H Q _ => ∃ a xs, vs = [.ref a] ∧ (SqL K H a (xs.map nv) ∨ SqT K H a (xs.map nv)) ∧ xs.length ≤ 1000 ∧ ∀ H' p, Same H H' → H p = none → H' p = some (.lst ((intsOf xs).map V.int)) → Q (.ref p) H'
theorem ints_any : ∀ xs : List (Option Int), decide (0 < ((intsOf xs).length : Int)) = xs.any Option.isSome
  | [] => rfl
  | none :: xs => by
    have := ints_any xs
    rw [List.any_cons]
    show decide (0 < ((intsOf xs).length : Int)) = _
    rw [this]
    rfl
  | some i :: xs => by
    rw [List.any_cons]
    show decide (0 < (((i :: intsOf xs).length : Nat) : Int)) = _
    rw [decide_eq_true (by rw [List.length_cons]; omega)]
    rfl

def numT : Option Int → Str
  | none => "."
  | some i => toString i
theorem join_le (sep : Str) (ys : List Str) : (Txt.join sep ys).length ≤ (ys.map (·.length)).sum + ys.length * sep.length := by
  show (Builtin.Str.glued sep ys).length ≤ _
  rw [StrLaws.glued_eq_join]
  exact StrLaws.join_length_le sep ys
theorem bo_bits {i : Int} (h : -big ≤ i ∧ i ≤ big) : i.natAbs.log2 < 1920 := by
  have h2 : i.natAbs < 2 ^ 1920 := by
    have h3 : (1000000000000000000000000000000 : Nat) < 2 ^ 1920 := by decide +kernel
    have h4 : i.natAbs ≤ 1000000000000000000000000000000 := by have h5 : -1000000000000000000000000000000 ≤ i := h.1; have h6 : i ≤ 1000000000000000000000000000000 := h.2; omega
    omega
  exact PySem.Flt.log2_lt_of (by decide) h2
theorem numT_len {o : Option Int} (h : ∀ i, o = some i → -big ≤ i ∧ i ≤ big) : (numT o).length ≤ 1921 := by
  cases o with
  | none => show (1 : Nat) ≤ 1921; decide
  | some i =>
    have := int_text_length_le (k := 1920) (by decide) (bo_bits (h i rfl))
    show (Str.ofString (toString i)).length ≤ 1921
    rw [ofString_length]
    exact this
theorem sum_le {k : Nat} : ∀ {ys : List Str}, (∀ y ∈ ys, y.length ≤ k) → (ys.map (·.length)).sum ≤ k * ys.length
  | [], _ => by simp
  | y :: r, h => by
    have h1 := sum_le (ys := r) fun z hz => h z (List.mem_cons_of_mem _ hz)
    have h2 := h y (List.mem_cons_self ..)
    simp only [List.map_cons, List.sum_cons, List.length_cons, Nat.mul_succ]
    omega
def rowT (xs : List (Option Int)) : Str := Txt.join " " (xs.map numT)
theorem bo_num {xs : List (Option Int)} (h : Bo xs) : ∀ y ∈ xs.map numT, y.length ≤ 1921 := fun y hy => by
  obtain ⟨o, ho, rfl⟩ := List.mem_map.mp hy
  exact numT_len fun i e => h i (e ▸ ho)
theorem rowT_len {xs : List (Option Int)} (h : Bo xs) (hl : xs.length ≤ 4) : (rowT xs).length ≤ 8000 := by
  have h1 := join_le " " (xs.map numT)
  have h2 := sum_le (bo_num h)
  have e : (" " : Str).length = 1 := by decide +kernel
  rw [e] at h1
  rw [List.length_map] at h1 h2
  unfold rowT
  omega
section
variable {P : Program} {w : World} {K : PySem.W.Frag} {mg : Str → Option Value} {base : Heap}
theorem paired_at {α β : Type} {R : α → β → Prop} : ∀ {xs : List α} {ys : List β} {i : Nat} {x : α}, Paired R xs ys → xs[i]? = some x → ∃ y, ys[i]? = some y ∧ R x y
  | _, _, i, _, .nil, e => by simp at e
  | _, _, 0, _, .cons r _, e => by simp at e; subst e; exact ⟨_, rfl, r⟩
  | _, _, i + 1, _, .cons _ t, e => by
    obtain ⟨y, h1, h2⟩ := paired_at (i := i) t (by simpa using e)
    exact ⟨y, by simpa using h1, h2⟩
end

section
variable {X : Cx}
theorem op_neL0 (hu : X.A.units + 64 < cLine) : OpR X (compareOp .NotEq) (fun x y H Q => ∃ a b xs, x = .ref a ∧ y = .ref b ∧ SqL X.K H a xs ∧ SqL X.K H b [] ∧ Q (.bl (!xs.isEmpty)) H) := by
  intro pins s σ H x y v u Q I rx ry h
  obtain ⟨a, b, xs, rfl, rfl, ha, hb, q⟩ := h
  cases rx
  cases ry
  obtain ⟨its, r, pl, _⟩ := I.list ha
  obtain ⟨its2, r2, pl2, _⟩ := I.list hb
  cases r2
  cases xs with
  | nil =>
    cases r
    exact SeqAt.RcNeAt.lists (e := fun _ => true) pl.isList pl2.isList rfl (by omega) (fun j h1 _ => absurd h1 (by simp)) X.prog X.w _ _ ⟨.bl _, H, I, rfl, q⟩
  | cons x xs =>
    cases r with
    | cons r1 r2 => exact SeqAt.RcNeAt.lists_lengths pl.isList pl2.isList (by simp) (by omega) X.prog X.w _ _ ⟨.bl _, H, I, rfl, q⟩
theorem op_neT0 (hu : X.A.units + 64 < cLine) : OpR X (compareOp .NotEq) (fun x y H Q => ∃ a b xs, x = .ref a ∧ y = .ref b ∧ SqT X.K H a xs ∧ SqT X.K H b [] ∧ Q (.bl (!xs.isEmpty)) H) := by
  intro pins s σ H x y v u Q I rx ry h
  obtain ⟨a, b, xs, rfl, rfl, ha, hb, q⟩ := h
  cases rx
  cases ry
  obtain ⟨its, r, pl, _⟩ := I.tuple ha
  obtain ⟨its2, r2, pl2, _⟩ := I.tuple hb
  cases r2
  have h1 : (!((List.range (min its.toArray.size ([] : List Value).toArray.size)).all (fun _ => true) && its.toArray.size == ([] : List Value).toArray.size)) = !xs.isEmpty := by
    cases r with
    | nil => rfl
    | cons a b => simp
  refine SeqAt.RcNeAt.tuples (e := fun _ => true) pl pl2 (by omega) (fun j _ h2 => absurd h2 (by simp)) X.prog X.w _ _ ?_
  rw [h1]
  exact ⟨.bl _, H, I, rfl, q⟩
end
def LcX (u d : Addr) (H0 : Hp) (D : Addr) (out : Nat → List PyData) : Nat → Hp → Prop := fun i H => Same H0 H ∧ ∃ vs, H D = some (.lst vs) ∧ DXs u d H0 vs (out i)
theorem lcX_start {u d : Addr} {H : Hp} {D : Addr} {out : Nat → List PyData} (hD : H D = none) (h : out 0 = []) : LcX u d H D out 0 (upd H D (.lst [])) := ⟨Same.fresh (Same.refl H) hD, [], upd_same, by rw [h]; exact .nil⟩
theorem LcX.skip {u d : Addr} {H0 H : Hp} {D : Addr} {out : Nat → List PyData} {i : Nat} (I : LcX u d H0 D out i H) (h : out (i + 1) = out i) : LcX u d H0 D out (i + 1) H := ⟨I.1, by rw [h]; exact I.2⟩
def notN : PyData → Bool
  | .none => false
  | _ => true
theorem filt_put {f : PyData → Bool} {qs : List PyData} {i : Nat} {q : PyData} (h : qs[i]? = some q) (hf : f q = true) : (qs.take (i + 1)).filter f = (qs.take i).filter f ++ [q] := by
  rw [take_one h, List.filter_append, List.filter_cons_of_pos hf]
  rfl
theorem filt_skip {f : PyData → Bool} {qs : List PyData} {i : Nat} {q : PyData} (h : qs[i]? = some q) (hf : f q = false) : (qs.take (i + 1)).filter f = (qs.take i).filter f := by
  rw [take_one h, List.filter_append, List.filter_cons_of_neg (by rw [hf]; exact Bool.false_ne_true), List.filter_nil, List.append_nil]
theorem LcX.put {u d : Addr} {H0 H : Hp} {D : Addr} {out : Nat → List PyData} {i : Nat} {x : V} {q : PyData} (hD : H0 D = none) (I : LcX u d H0 D out i H) (hx : DX u d H0 x q) (h : out (i + 1) = out i ++ [q]) (hz : (out i).length ≤ 2000000) :
    ∃ acc, H D = some (.lst acc) ∧ acc.length < sizeLine ∧ LcX u d H0 D out (i + 1) (upd H D (.lst (acc ++ [x]))) := by
  obtain ⟨S, vs, e, dx⟩ := I
  refine ⟨vs, e, small6 (by rw [dx.length]; exact hz), fun b u e => by rw [upd_ne (ne_of_none e hD)]; exact S b u e, vs ++ [x], upd_same, ?_⟩
  rw [h]
  exact dx.append (.cons hx .nil)
theorem LcX.fin {u d : Addr} {H0 H : Hp} {D : Addr} {out : Nat → List PyData} {i : Nat} {l : List PyData} (I : LcX u d H0 D out i H) (h : out i = l) : ∃ vs, H D = some (.lst vs) ∧ DXs u d H0 vs l := by rw [← h]; exact I.2
theorem dxs_int {u d : Addr} {H : Hp} : ∀ {ns : List Int} {vs : List V}, DXs u d H vs (ns.map PyData.int) → vs = ns.map V.int
  | [], _, h => by cases h; rfl
  | n :: ns, _, h => by
    cases h with
    | cons h1 h2 => cases h1; rw [dxs_int h2]; rfl
theorem eqv_ints (ns : List Int) : PyData.eqv (.list (ns.map .int)) (.list []) = ns.isEmpty := by
  cases ns <;> rfl
theorem all_min {ns : List Int} {m b : Int} (h1 : m ∈ ns) (h2 : ∀ y ∈ ns, m ≤ y) : decide (b ≤ m) = ns.all fun y => decide (b ≤ y) := by
  rw [Bool.eq_iff_iff, decide_eq_true_eq, List.all_eq_true]
  constructor
  · intro h y hy
    exact decide_eq_true (Int.le_trans h (h2 y hy))
  · intro h
    exact of_decide_eq_true (h m h1)
theorem all_max {ns : List Int} {m b : Int} (h1 : m ∈ ns) (h2 : ∀ y ∈ ns, y ≤ m) : decide (m ≤ b) = ns.all fun y => decide (y ≤ b) := by
  rw [Bool.eq_iff_iff, decide_eq_true_eq, List.all_eq_true]
  constructor
  · intro h y hy
    exact decide_eq_true (Int.le_trans (h2 y hy) h)
  · intro h
    exact of_decide_eq_true (h m h1)

abbrev CC := L2.St → Hp → Prop
structure LC (u d : Addr) (C : CC) : Prop where
  go : ∀ σ H H', Same H H' → C σ H → C σ H'
  nu : ∀ σ H, C σ H → H u ≠ none
  nd : ∀ σ H, C σ H → H d ≠ none
def tLit (C : CC) (u d : Addr) (q : PyData) : TE := fun σ H Q => C σ H ∧ ∀ v H', Same H H' → DX u d H' v q → Q v H'
def tLits (C : CC) (u d : Addr) (qs : List PyData) : TA := fun σ H Q => C σ H ∧ ∀ vs H', Same H H' → DXs u d H' vs qs → Q vs H'
theorem pa_imp {X : Cx} {es : List Expr} {t S : TA} (h : PA X es t) (hs : ∀ σ H Q, S σ H Q → t σ H Q) : PA X es S := ⟨fun pos pins s σ H Q I q => h.run pos pins s σ H Q I (hs σ H Q q)⟩
theorem ne_fresh {H : Hp} {u p : Addr} (h : H u ≠ none) (hp : H p = none) : p ≠ u := fun e => h (e ▸ hp)
section
variable {X : Cx} {C : CC} {u d : Addr} {pos : Pos} {e a b : Expr} {es : List Expr} {q : PyData} {qs rs : List PyData} {kk : Nat}
theorem lit_non {j} : PE X (.Constant .none j pos) (tLit C u d .none) := pe_imp pe_non fun σ H Q h => h.2 _ H (Same.refl _) .non
theorem lit_bl {b j} : PE X (.Constant (.bool b) j pos) (tLit C u d (.bool b)) := pe_imp pe_bl fun σ H Q h => h.2 _ H (Same.refl _) (.bl b)
theorem lit_int {i j} : PE X (.Constant (.int i) j pos) (tLit C u d (.int i)) := pe_imp pe_int fun σ H Q h => h.2 _ H (Same.refl _) (.int i)
theorem lit_str {x j} : PE X (.Constant (.str x) j pos) (tLit C u d (.str x)) := pe_imp pe_str fun σ H Q h => h.2 _ H (Same.refl _) (.str x)
theorem lits_nil : PA X [] (tLits C u d []) := pa_imp pa_nil fun σ H Q h => h.2 _ H (Same.refl _) .nil
theorem lits_cons (L : LC u d C) (he : PE X e (tLit C u d q)) (hr : PA X es (tLits C u d qs)) (hs : starEach (e :: es) X.env = (false, eval e X.env) :: starEach es X.env := by rfl) : PA X (e :: es) (tLits C u d (q :: qs)) :=
  pa_imp (pa_cons he hr hs) fun σ H Q ⟨c, h⟩ => ⟨c, fun v H1 S1 dx => ⟨L.go _ _ _ S1 c, fun vs H2 S2 dxs => h _ H2 (S1.trans S2) (.cons (dx.same S2) dxs)⟩⟩
theorem lit_tup (L : LC u d C) (h : PA X es (tLits C u d qs)) (hl : qs.length ≤ 1000) {k : Nat} : PE X (.Tuple es k pos) (tLit C u d (.tuple qs)) :=
  pe_imp (pe_tup h) fun σ H Q ⟨c, k⟩ => ⟨c, fun vs H1 S1 dx => ⟨by rw [dx.length]; exact Nat.le_of_lt (small1000 hl), fun p hp => by
    have c1 := L.go _ _ _ S1 c
    exact k _ _ (Same.fresh S1 hp) (.tup (ne_fresh (L.nu _ _ c1) hp) (ne_fresh (L.nd _ _ c1) hp) upd_same (dx.same (Same.fresh (Same.refl _) hp)))⟩⟩
theorem lit_lst (L : LC u d C) (h : PA X es (tLits C u d qs)) (hl : qs.length ≤ 1000) : PE X (.List es pos) (tLit C u d (.list qs)) :=
  pe_imp (pe_lst h) fun σ H Q ⟨c, k⟩ => ⟨c, fun vs H1 S1 dx => ⟨by rw [dx.length]; exact Nat.le_of_lt (small1000 hl), fun p hp => by
    have c1 := L.go _ _ _ S1 c
    exact k _ _ (Same.fresh S1 hp) (.lst (ne_fresh (L.nu _ _ c1) hp) (ne_fresh (L.nd _ _ c1) hp) upd_same (dx.same (Same.fresh (Same.refl _) hp)))⟩⟩
theorem lit_dnew (L : LC u d C) : PE X (.Dict [] [] pos) (tLit C u d (.dict [])) :=
  pe_imp pe_dnewK fun σ H Q ⟨c, k⟩ => fun p hp => k _ _ (Same.fresh (Same.refl _) hp) (.dic (ne_fresh (L.nu _ _ c) hp) (ne_fresh (L.nd _ _ c) hp) upd_same .nil)
/-- an int that is reckoned -/
theorem lit_num {i : Int} (h : ∀ σ H (Q : VK), C σ H → Q (.int i) H → ∃ t : TE, PE X e t ∧ t σ H Q) : PE X e (tLit C u d (.int i)) := by
  refine ⟨fun pins s σ H Q I hq => ?_⟩
  obtain ⟨t, ht, k⟩ := h σ H Q hq.1 (hq.2 _ H (Same.refl _) (.int i))
  exact ht.run pins s σ H Q I k
theorem lit_num2 {i : Int} {t : TE} (ht : PE X e t) (h : ∀ σ H (Q : VK), Q (.int i) H → t σ H Q) : PE X e (tLit C u d (.int i)) :=
  pe_imp ht fun σ H Q ⟨c, k⟩ => h σ H Q (k _ H (Same.refl _) (.int i))
/-- t + t' -/
theorem lit_cat (L : LC u d C) (ha : PE X a (tLit C u d (.tuple qs))) (hb : PE X b (tLit C u d (.tuple rs))) (hz : qs.length + rs.length ≤ 2000000) : PE X (.BinOp a .Add b pos) (tLit C u d (.tuple (qs ++ rs))) :=
  pe_imp (pe_op op_catA ha hb) fun σ H Q ⟨c, k⟩ => ⟨c, fun v H1 S1 dx => ⟨L.go _ _ _ S1 c, fun y H2 S2 dy => by
    have c2 := L.go _ _ _ (S1.trans S2) c
    have dx2 := dx.same S2
    cases dx2 with
    | @tup a xs _ a1 a2 a3 a4 =>
      cases dy with
      | @tup b ys _ b1 b2 b3 b4 =>
        refine ⟨a, b, xs, ys, rfl, rfl, SqT.of a3, SqT.of b3, ?_, fun e => ?_, fun _ e => ?_, fun _ _ p hp => ?_⟩
        · rw [a4.length, b4.length]; exact Nat.le_of_lt (small6 hz)
        · subst e
          cases a4
          exact k _ H2 (S1.trans S2) (.tup b1 b2 b3 b4)
        · subst e
          cases b4
          rw [List.append_nil] at k
          exact k _ H2 (S1.trans S2) (.tup a1 a2 a3 a4)
        · have S3 : Same H2 (upd H2 p (.tup (xs ++ ys))) := Same.fresh (Same.refl _) hp
          exact k _ _ ((S1.trans S2).trans S3) (.tup (ne_fresh (L.nu _ _ c2) hp) (ne_fresh (L.nd _ _ c2) hp) upd_same ((a4.same S3).append (b4.same S3)))⟩⟩
/-- x[n:m] -/
theorem lit_slice (L : LC u d C) {lo hi : Option Expr} {tl th : TO} {l m : Option Int} {pos2 : Pos} (ha : PE X a (tLit C u d (.tuple qs))) (hl : PO X lo tl) (hh : PO X hi th)
    (h1 : ∀ σ H (Q : Option Int → Hp → Prop), C σ H → Q l H → tl σ H Q) (h2 : ∀ σ H (Q : Option Int → Hp → Prop), C σ H → Q m H → th σ H Q) {cut : List PyData}
    (hc : ∀ {xs : List V} {H}, DXs u d H xs qs → DXs u d H (cutV xs l m) cut) (hw : HT.sIx qs.length 0 l = 0 ∧ HT.sIx qs.length qs.length m = qs.length → cut = qs) : PE X (.Subscript a (.Slice lo hi none pos2) pos) (tLit C u d (.tuple cut)) :=
  pe_imp (pe_slice sl_tupA ha hl hh) fun σ H Q ⟨c, k⟩ => ⟨c, fun v H1 S1 dx => h1 _ _ _ (L.go _ _ _ S1 c) (h2 _ _ _ (L.go _ _ _ S1 c) (by
    have c1 := L.go _ _ _ S1 c
    cases dx with
    | @tup a xs _ a1 a2 a3 a4 =>
      have hln := a4.length
      refine ⟨a, xs, rfl, SqT.of a3, fun w => ?_, fun _ p hp => ?_⟩
      · rw [hln] at w
        rw [hw w] at k
        exact k _ H1 S1 (.tup a1 a2 a3 a4)
      · have S3 : Same H1 (upd H1 p (.tup (cutV xs l m))) := Same.fresh (Same.refl _) hp
        exact k _ _ (S1.trans S3) (.tup (ne_fresh (L.nu _ _ c1) hp) (ne_fresh (L.nd _ _ c1) hp) upd_same ((hc a4).same S3))))⟩
/-- a name -/
theorem lit_var {i : Nat} {t : TE} (ht : PE X e t) (h : ∀ σ H (Q : VK), C σ H → (∀ v, DX u d H v q → Q v H) → t σ H Q) : PE X e (tLit C u d q) :=
  pe_imp ht fun σ H Q ⟨c, k⟩ => h σ H Q c fun v dx => k v H (Same.refl _) dx
end

def C0 (u d : Addr) : CC := fun _ H => H u ≠ none ∧ H d ≠ none
theorem same_ne {H H' : Hp} {u : Addr} (S : Same H H') (h : H u ≠ none) : H' u ≠ none := by
  cases e : H u with
  | none => exact absurd e h
  | some o => rw [S _ _ e]; simp
theorem lc0 (u d : Addr) : LC u d (C0 u d) := ⟨fun σ H H' S h => ⟨same_ne S h.1, same_ne S h.2⟩, fun σ H h => h.1, fun σ H h => h.2⟩
theorem UrnAt.ne0 {H : Hp} {u d m : Addr} (U : UrnAt H u d m) : H u ≠ none ∧ H d ≠ none := by
  obtain ⟨⟨ds, ms, sm, n, h1, h2, _⟩, _⟩ := U
  exact ⟨by rw [h1]; simp, by rw [h2]; simp⟩
theorem DXs.mem {u d : Addr} {H : Hp} : ∀ {vs : List V} {qs : List PyData} {v : V}, DXs u d H vs qs → v ∈ vs → ∃ q, q ∈ qs ∧ DX u d H v q
  | _, _, _, .cons h r, hv => by
    rcases List.mem_cons.mp hv with rfl | hv
    · exact ⟨_, List.mem_cons_self .., h⟩
    · obtain ⟨q, h1, h2⟩ := DXs.mem r hv
      exact ⟨q, List.mem_cons_of_mem _ h1, h2⟩
section
variable {X : Cx} {C : CC} {u d : Addr} {pos : Pos}
theorem lit_d01 (L : LC u d C) {j1 j2 j3 p1 p2 p3 p4 k} : PE X (.Dict [some (.Constant (.int 0) j1 p1), some (.Constant (.int 1) j2 p2)] [.Constant (.int 1) j3 p3, .Tuple [] k p4] pos) (tLit C u d (.dict [(.int 0, .int 1), (.int 1, .tuple [])])) :=
  pe_imp (pe_disp (pps_cons pe_int pe_int (pps_cons pe_int (pe_tup pa_nil) pps_nil)) (by rfl) (by rfl) (fun z => by cases z) (Nat.le_of_ble_eq_true rfl)) fun σ H Q ⟨c, k⟩ => fun p hp => ⟨(by show 0 ≤ sizeLine; decide), fun p2 hp2 => ⟨(by
      rw [upd_ne (fun e => by rw [← e, upd_same] at hp2; cases hp2)]; exact upd_same), [(.inl 0, .int 1), (.inl 1, .ref p2)], rfl, (Nat.le_of_ble_eq_true rfl), by
    have npp : p2 ≠ p := fun e => by rw [e, upd_same] at hp2; cases hp2
    have hp2' : H p2 = none := by rw [upd_ne npp] at hp2; exact hp2
    refine k _ _ (fun b o e => ?_) (.dic (ne_fresh (L.nu _ _ c) hp) (ne_fresh (L.nd _ _ c) hp) upd_same (.cons (.int 1) (.cons (.tup (ne_fresh (L.nu _ _ c) hp2') (ne_fresh (L.nd _ _ c) hp2') (by rw [upd_ne npp, upd_same]) .nil) .nil)))
    rw [upd_ne (ne_of_none e hp), upd_ne (ne_of_none e hp2'), upd_ne (ne_of_none e hp)]
    exact e⟩⟩
theorem lit_d0 (L : LC u d C) {j1 j2 p1 p2} : PE X (.Dict [some (.Constant (.int 0) j1 p1)] [.Constant .none j2 p2] pos) (tLit C u d (.dict [(.int 0, .none)])) :=
  pe_imp (pe_disp (pps_cons pe_int pe_non pps_nil) (by rfl) (by rfl) (fun z => by cases z) (Nat.le_of_ble_eq_true rfl)) fun σ H Q ⟨c, k⟩ => fun p hp => ⟨upd_same, [(.inl 0, .non)], rfl, (Nat.le_of_ble_eq_true rfl), by
    refine k _ _ (fun b o e => ?_) (.dic (ne_fresh (L.nu _ _ c) hp) (ne_fresh (L.nd _ _ c) hp) upd_same (.cons .non .nil))
    rw [upd_ne (ne_of_none e hp), upd_ne (ne_of_none e hp)]
    exact e⟩
end

section
variable {X : Cx}
theorem dot_ok {n : Int} (h0 : 0 ≤ n) (h1 : n ≤ 2000000) : MulOk (⟨#[46]⟩ : Str) n := by
  refine ⟨?_, fun a b => ?_, fun a b => ?_⟩
  · rw [decide_eq_false (by omega), decide_eq_false (by omega)]
    rfl
  · intro z
    have z' : (1 : Int) > (2 ^ 63 - 1) / n := z
    have hn : 0 < n := by omega
    have : 1 ≤ (2 ^ 63 - 1 : Int) / n := by
      rw [Int.le_ediv_iff_mul_le hn]
      omega
    omega
  · show Builtin.Str.tooLong (1 * n.toNat) = false
    unfold Builtin.Str.tooLong
    rw [sizeLine_eq]
    simp
    omega
theorem op_mulDot : OpR X (binaryOp .Mult) (fun x y H Q => ∃ n : Int, x = .str "." ∧ y = .int n ∧ 0 ≤ n ∧ n ≤ 2000000 ∧ Q (.str (Txt.mul ⟨#[46]⟩ n)) H) := by
  intro pins s σ H x y v u Q I rx ry h
  obtain ⟨n, rfl, rfl, h0, h1, q⟩ := h
  obtain ⟨t, rfl⟩ := rx
  obtain ⟨t2, rfl⟩ := ry
  exact SB.mul (x := ⟨#[46]⟩) (dot_ok h0 h1) fun t' k => ⟨.str _, H, I.tok _, ⟨_, rfl⟩, q⟩
theorem dot_len {n : Int} (h0 : 0 ≤ n) : (reprText (Txt.mul ⟨#[46]⟩ n)).length ≤ 10 * n.toNat + 2 := by
  have e := PyProof.Rows.mul_one_list 46 n
  have h1 := StrLaws.reprText_len (Txt.mul ⟨#[46]⟩ n) (fun c hc => by
    rw [e] at hc
    rw [(List.mem_replicate.mp hc).2]
    decide)
  have h2 : (Txt.mul ⟨#[46]⟩ n).length = n.toNat := by
    have : (Txt.mul ⟨#[46]⟩ n).cps.toList.length = n.toNat := by rw [e, List.length_replicate]
    rw [← this]
    simp [Str.length]
  rw [h2] at h1
  exact h1
end
section
variable {K : PySem.W.Frag} {u d : Addr} {H : Hp} {x y : V} {qs rs : List PyData} {Q : VK}
theorem catX (nu : H u ≠ none) (nd : H d ≠ none) (hx : DX u d H x (.tuple qs)) (hy : DX u d H y (.tuple rs)) (hz : qs.length + rs.length ≤ 2000000) (k : ∀ v H', Same H H' → DX u d H' v (.tuple (qs ++ rs)) → Q v H') : rCatA K x y H Q := by
  cases hx with
  | @tup a xs _ a1 a2 a3 a4 =>
    cases hy with
    | @tup b ys _ b1 b2 b3 b4 =>
      refine ⟨a, b, xs, ys, rfl, rfl, SqT.of a3, SqT.of b3, ?_, fun e => ?_, fun _ e => ?_, fun _ _ p hp => ?_⟩
      · rw [a4.length, b4.length]; exact Nat.le_of_lt (small6 hz)
      · subst e
        cases a4
        exact k _ H (Same.refl _) (.tup b1 b2 b3 b4)
      · subst e
        cases b4
        rw [List.append_nil] at k
        exact k _ H (Same.refl _) (.tup a1 a2 a3 a4)
      · have S3 : Same H (upd H p (.tup (xs ++ ys))) := Same.fresh (Same.refl _) hp
        exact k _ _ S3 (.tup (ne_fresh nu hp) (ne_fresh nd hp) upd_same ((a4.same S3).append (b4.same S3)))
theorem sliceX {l m : Option Int} {cut : List PyData} (nu : H u ≠ none) (nd : H d ≠ none) (hx : DX u d H x (.tuple qs)) (hc : ∀ {xs : List V}, DXs u d H xs qs → DXs u d H (cutV xs l m) cut) (hw : HT.sIx qs.length 0 l = 0 ∧ HT.sIx qs.length qs.length m = qs.length → cut = qs)
    (k : ∀ v H', Same H H' → DX u d H' v (.tuple cut) → Q v H') : rSlA K x l m H Q := by
  cases hx with
  | @tup a xs _ a1 a2 a3 a4 =>
    have hln := a4.length
    refine ⟨a, xs, rfl, SqT.of a3, fun w => ?_, fun _ p hp => ?_⟩
    · rw [hln] at w
      rw [hw w] at k
      exact k _ H (Same.refl _) (.tup a1 a2 a3 a4)
    · have S3 : Same H (upd H p (.tup (cutV xs l m))) := Same.fresh (Same.refl _) hp
      exact k _ _ S3 (.tup (ne_fresh nu hp) (ne_fresh nd hp) upd_same ((hc a4).same S3))
end
/-- x[:j], x[j + 1:] -/
theorem cut_loX {u d : Addr} {H : Hp} {xs : List V} {qs : List PyData} {j : Nat} (h : j ≤ qs.length) (hx : DXs u d H xs qs) : DXs u d H (cutV xs none (some (j : Int))) (qs.take j) := by
  rw [cut_lo (by rw [hx.length]; exact h)]
  exact hx.take j
theorem cut_hiX {u d : Addr} {H : Hp} {xs : List V} {qs : List PyData} {j : Nat} (h : j < qs.length) (hx : DXs u d H xs qs) : DXs u d H (cutV xs (some ((j : Int) + 1)) none) (qs.drop (j + 1)) := by
  rw [cut_hi (by rw [hx.length]; exact h)]
  exact hx.drop (j + 1)
theorem whole_lo {qs : List PyData} {j : Nat} (h : HT.sIx qs.length 0 none = 0 ∧ HT.sIx qs.length qs.length (some (j : Int)) = qs.length) : qs.take j = qs := by
  have := h.2
  rw [HT.sIx_nat] at this
  exact List.take_of_length_le (by omega)
theorem whole_hi {qs : List PyData} {j : Nat} (h : HT.sIx qs.length 0 (some ((j : Int) + 1)) = 0 ∧ HT.sIx qs.length qs.length none = qs.length) : qs.drop (j + 1) = qs := by
  have h1 := h.1
  have h2 := HT.sIx_nat qs.length 0 (j + 1)
  rw [show (((j + 1 : Nat) : Int)) = (j : Int) + 1 by omega] at h2
  rw [h2] at h1
  have : qs.length = 0 := by omega
  rw [List.eq_nil_of_length_eq_zero this]
  rfl

theorem cut_lastX {u d : Addr} {H : Hp} {xs : List V} {qs : List PyData} (hx : DXs u d H xs qs) : DXs u d H (cutV xs none (some (-1))) (qs.take (qs.length - 1)) := by
  have e : cutV xs none (some (-1)) = xs.take (xs.length - 1) := by
    unfold cutV
    rw [HT.sIx_none, List.drop_zero]
    have : HT.sIx xs.length xs.length (some (-1)) = xs.length - 1 := by
      show (if (-1 : Int) < 0 then ((-1 : Int) + (xs.length : Int)).toNat else min (-1 : Int).toNat xs.length) = _
      rw [if_pos (by decide)]
      omega
    rw [this]
    rfl
  rw [e, hx.length]
  exact hx.take _
theorem whole_last {qs : List PyData} (h0 : 0 < qs.length) (h : HT.sIx qs.length 0 none = 0 ∧ HT.sIx qs.length qs.length (some (-1)) = qs.length) : qs.take (qs.length - 1) = qs := by
  have h2 : (if (-1 : Int) < 0 then ((-1 : Int) + (qs.length : Int)).toNat else min (-1 : Int).toNat qs.length) = qs.length := h.2
  rw [if_pos (by decide)] at h2
  omega
theorem one_go {C : CC} {u d m : Addr} {σ : L2.St} {H : Hp} {Q : VK} {E : XK} {qs : List PyData} (L : LC u d C) (c : C σ H) (hσ : σ[0]? = some (some (.ref u))) (U : UrnAt H u d m) (h0 : 0 < qs.length) (h1 : qs.length < 1000)
    (k : ∀ H' v q, q ∈ qs → DX u d H' v q → UrnAt H' u d m → Off u d H H' → Q v H') : tCall spOne [] E (tCons (tVar 0) (tCons (tLst (tLits C u d qs)) tNil)) σ H Q := by
  refine ⟨_, hσ, c, fun vs H1 S1 dx => ⟨?_, fun l hl => ?_⟩⟩
  · rw [dx.length]; exact Nat.le_of_lt (small1000 (by omega))
  · have U1 := U.same S1
    refine ⟨u, d, m, l, vs, rfl, upd_same, (U1.nfree hl).1, (U1.nfree hl).2, by rw [dx.length]; exact h0, by rw [dx.length]; exact h1, U1.fresh hl, fun H' v hv U' O => ?_⟩
    have S2 : Same H (upd H1 l (.lst vs)) := Same.fresh S1 hl
    obtain ⟨q, hq, dq⟩ := DXs.mem ((dx.same (Same.fresh (Same.refl _) hl)).off O) hv
    exact k H' v q hq dq U' ((Same.off S2).trans O)
/-- shown in so many signs, so deep -/
structure Sb (b t : Nat) (q : PyData) : Prop where
  sh : q.showable = true
  sz : sz q ≤ b
  dp : q.depth ≤ t
theorem sb_tup {b t : Nat} {qs : List PyData} (h1 : PyData.showableAll qs = true) (h2 : szs qs + 6 ≤ b) (h3 : PyData.depthAll qs + 1 ≤ t) : Sb b t (.tuple qs) := ⟨by simpa only [PyData.showable] using h1, by simp only [sz]; omega, by simp only [PyData.depth]; exact h3⟩
theorem sb_items {b t : Nat} {qs : List PyData} (h : Sb b t (.tuple qs)) : PyData.showableAll qs = true ∧ szs qs + 6 ≤ b ∧ PyData.depthAll qs + 1 ≤ t := by
  obtain ⟨h1, h2, h3⟩ := h
  simp only [PyData.showable] at h1
  simp only [sz] at h2
  simp only [PyData.depth] at h3
  exact ⟨h1, by omega, h3⟩
theorem showA_take {qs : List PyData} (n : Nat) (h : PyData.showableAll qs = true) : PyData.showableAll (qs.take n) = true := showA_of fun q hq => showA_mem (List.mem_of_mem_take hq) h
theorem showA_drop {qs : List PyData} (n : Nat) (h : PyData.showableAll qs = true) : PyData.showableAll (qs.drop n) = true := showA_of fun q hq => showA_mem (List.mem_of_mem_drop hq) h
theorem depA_take {qs : List PyData} (n : Nat) : PyData.depthAll (qs.take n) ≤ PyData.depthAll qs := depA_of fun q hq => depA_mem (List.mem_of_mem_take hq)
theorem depA_drop {qs : List PyData} (n : Nat) : PyData.depthAll (qs.drop n) ≤ PyData.depthAll qs := depA_of fun q hq => depA_mem (List.mem_of_mem_drop hq)
theorem depA_append (a b : List PyData) {n : Nat} (ha : PyData.depthAll a ≤ n) (hb : PyData.depthAll b ≤ n) : PyData.depthAll (a ++ b) ≤ n := depA_of fun q hq => by
  rcases List.mem_append.mp hq with h | h
  · exact Nat.le_trans (depA_mem h) ha
  · exact Nat.le_trans (depA_mem h) hb


theorem ps_imp {X : Cx} {st : Stmt} {t S : TS} (h : PS X st t) (hs : ∀ D σ H, S D σ H → t D σ H) : PS X st S := ⟨fun pins s σ H D I q => h.run pins s σ H D I (hs D σ H q)⟩
theorem Sb.mono {b t b2 t2 : Nat} {q : PyData} (h : Sb b t q) (hb : b ≤ b2) (ht : t ≤ t2) : Sb b2 t2 q := ⟨h.sh, Nat.le_trans h.sz hb, Nat.le_trans h.dp ht⟩
theorem sb_all {b t n : Nat} {qs : List PyData} (h : ∀ q ∈ qs, Sb b t q) (hl : qs.length ≤ n) : PyData.showableAll qs = true ∧ szs qs ≤ n * (b + 6) ∧ PyData.depthAll qs ≤ t := by
  refine ⟨showA_of fun q hq => (h q hq).sh, ?_, depA_of fun q hq => (h q hq).dp⟩
  have : ∀ l : List PyData, (∀ q ∈ l, sz q ≤ b) → szs l ≤ l.length * (b + 6) := fun l => by
    induction l with
    | nil => intro _; simp [szs]
    | cons x l ih =>
      intro hh
      have h1 := hh x (List.mem_cons_self ..)
      have h2 := ih fun q hq => hh q (List.mem_cons_of_mem _ hq)
      simp only [szs, List.length_cons, Nat.succ_mul]
      omega
  exact Nat.le_trans (this qs fun q hq => (h q hq).sz) (Nat.mul_le_mul_right _ hl)

/-- a statement by a state's own derivation -/
theorem ps_ex {X : Cx} {st : Stmt} {S : TS} (h : ∀ D σ H, S D σ H → ∃ t, PS X st t ∧ t D σ H) : PS X st S := ⟨fun pins s σ H D I q => let ⟨t, ht, k⟩ := h D σ H q; ht.run pins s σ H D I k⟩
def tGo (P R : L2.St → Hp → Prop) : TS := fun D σ H => P σ H ∧ ∀ σ' H', R σ' H' → D.nx σ' H'
theorem DXs.atq {u d : Addr} {H : Hp} : ∀ {vs : List V} {qs : List PyData} {i : Nat} {q : PyData}, DXs u d H vs qs → qs[i]? = some q → ∃ v, vs[i]? = some v ∧ DX u d H v q
  | _, _, i, _, .nil, e => by simp at e
  | _, _, 0, _, .cons h _, e => by
    simp at e
    subst e
    exact ⟨_, rfl, h⟩
  | _, _, i + 1, _, .cons _ h, e => by
    obtain ⟨q, h1, h2⟩ := DXs.atq (i := i) h (by simpa using e)
    exact ⟨q, by simpa using h1, h2⟩
/-- (None,) * n -/
theorem pe_nones {X : Cx} {e : Expr} {tw : TE} {j p1 k p2 p3} (ht : PE X e tw) : PE X (.BinOp (.Tuple [.Constant .none j p1] k p2) .Mult e p3) (fun σ H Q => ∀ p, H p = none → tw σ (upd H p (.tup [V.non])) fun x H1 => ∃ n : Int, x = .int n ∧ 1 ≤ n ∧ n ≤ 1000 ∧ H1 p = some (.tup [V.non]) ∧
    ∀ c H2, Same H1 H2 → H2 c = some (.tup (List.replicate n.toNat V.non)) → Q (.ref c) H2) := by
  have key : PE X e (fun σ H Q => ∃ R : VK, tw σ H R ∧ ∀ x H1, R x H1 → Q x H1) := ⟨fun pins s σ H Q I ⟨R, h1, h2⟩ => thn (ht.run pins s σ H R I h1) fun v s1 ⟨x, H1, I1, r1, q1⟩ => ⟨x, H1, I1, r1, h2 _ _ q1⟩⟩
  refine pe_imp (pe_op op_repA (pe_tup (pa_cons pe_non pa_nil)) key) fun σ H Q h => ⟨(by show 1 ≤ sizeLine; decide), fun p hp => ⟨_, h p hp, ?_⟩⟩
  rintro x H1 ⟨n, rfl, n1, n2, e, q⟩
  refine ⟨p, n, _, rfl, rfl, SqT.of e, by simp, n1, n2, by decide, fun e1 => ?_, fun e1 c hc => ?_⟩
  · refine q p H1 (Same.refl _) ?_
    rw [e1]
    exact e
  · refine q c _ (Same.fresh (Same.refl _) hc) ?_
    rw [upd_same]
    congr 2
    generalize n.toNat = m
    induction m with
    | zero => rfl
    | succ m ih => rw [List.replicate_succ, List.flatten_cons, ih, List.replicate_succ]; rfl

theorem eqs {x : Str} {Q : VK} {H : Hp} (h : Q (.bl true) H) : Q (.bl (decide (V.str x = V.str x))) H := by
  rw [show decide (V.str x = V.str x) = true from decide_eq_true rfl]
  exact h
structure RE (q : PyData) : Prop where
  wd : wide q = true
  sb : Sb 2200 1 q
theorem re_bool (b : Bool) : RE (.bool b) := ⟨rfl, rfl, by simp only [sz]; omega, by simp only [PyData.depth]; omega⟩
theorem wide_all : ∀ {ds : List PyData}, (∀ q ∈ ds, wide q = true) → wideAll ds = true
  | [], _ => rfl
  | x :: r, h => by
    simp only [wideAll, h x (List.mem_cons_self ..), Bool.true_and]
    exact wide_all fun q hq => h q (List.mem_cons_of_mem _ hq)
theorem repr_go {K : PySem.W.Frag} {H : Hp} {Q : VK} {a : Addr} {vs : List V} {ds : List PyData} (h : H a = some (.lst vs)) (hd : DpAll K H vs ds) (hr : ∀ q ∈ ds, RE q) (hl : ds.length ≤ 10) (k : Q (.str (PyData.list ds).shown) H) : rRepr K [.ref a] H Q := by
  obtain ⟨z1, z2, z3⟩ := sb_all (fun q hq => (hr q hq).sb) hl
  refine ⟨a, ds, rfl, .lst (SqL.of h) hd, ?_, ?_, ?_, k⟩
  · simp only [wide]
    exact wide_all fun q hq => (hr q hq).wd
  · have := sz_shown (.list ds) (by simpa only [PyData.showable] using z1)
    simp only [sz] at this
    exact Nat.le_of_lt (small6 (by omega))
  · simp only [PyData.depth]; omega
theorem eqv_nones : ∀ xs : List (Option Int), PyData.eqvAll (xs.map pd) ((List.replicate xs.length (none : Option Int)).map pd) = !(xs.any Option.isSome)
  | [] => rfl
  | none :: xs => by
    rw [List.length_cons, List.replicate_succ, List.map_cons, List.map_cons, List.any_cons]
    show (PyData.eqv .none .none && _) = _
    rw [eqv_nones xs]
    rfl
  | some i :: xs => by
    rw [List.length_cons, List.replicate_succ, List.map_cons, List.map_cons, List.any_cons]
    rfl
theorem eqv_row (xs : List (Option Int)) {n : Nat} (h : xs.length = n) : PyData.eqv (.tuple (xs.map pd)) (.tuple ((List.replicate n (none : Option Int)).map pd)) = !(xs.any Option.isSome) := by
  subst h
  exact eqv_nones xs
theorem rep_non (n : Nat) : List.replicate n V.non = (List.replicate n (none : Option Int)).map nv := by simp [nv]

theorem flat_rep {α : Type} (x : α) (n : Nat) : (List.replicate n [x]).flatten = List.replicate n x := by
  induction n with
  | zero => rfl
  | succ n ih => rw [List.replicate_succ, List.flatten_cons, ih, List.replicate_succ]; rfl
theorem repX {K : PySem.W.Frag} {u d : Addr} {H : Hp} {x : V} {q : PyData} {k : Int} {Q : VK} (nu : H u ≠ none) (nd : H d ≠ none) (hx : DX u d H x (.tuple [q])) (k0 : 0 ≤ k) (k1 : k ≤ 1000) (c : ∀ v H', Same H H' → DX u d H' v (.tuple (List.replicate k.toNat q)) → Q v H') : rRepX K x (.int k) H Q := by
  cases hx with
  | @tup a xs _ a1 a2 a3 a4 =>
    cases a4 with
    | @cons v vs _ _ b1 b2 =>
      cases b2
      refine ⟨a, k, _, rfl, rfl, SqT.of a3, by simp, k0, k1, (by show 1 ≤ 1000; decide), fun e => ?_, fun _ p hp => ?_⟩
      · subst e
        exact c _ H (Same.refl _) (.tup a1 a2 a3 (.cons b1 .nil))
      · rw [flat_rep]
        have S : Same H (upd H p (.tup (List.replicate k.toNat v))) := Same.fresh (Same.refl _) hp
        exact c _ _ S (.tup (ne_fresh nu hp) (ne_fresh nd hp) upd_same (DXs.rep (b1.same S) _))
theorem dxs_ints {u d : Addr} {H : Hp} : ∀ ns : List Int, DXs u d H (ns.map V.int) (ns.map PyData.int)
  | [] => .nil
  | n :: ns => .cons (.int n) (dxs_ints ns)
theorem sb_bit {n : Int} (h0 : 0 ≤ n) (h1 : n < 2) : Sb 2000 0 (.int n) := by
  have : n = 0 ∨ n = 1 := by omega
  refine ⟨?_, by simp only [sz]; omega, by simp only [PyData.depth]; omega⟩
  rcases this with rfl | rfl <;> decide +kernel

theorem eqn {x : Str} {A B : Prop} (h : B) : if (!decide (V.str x = V.str x)) = true then A else B := iteNS rfl h
section
variable {X : Cx} {K : PySem.W.Frag}
theorem ixT (h : X.K = K) : IxR X (rIxT K) := by subst h; exact ix_tup
theorem opEqD (h : X.K = K) (hu : X.A.units + 64 < cLine) : OpR X (compareOp .Eq) (rEqD K) := by subst h; exact op_eqD hu
theorem opNeD (h : X.K = K) (hu : X.A.units + 64 < cLine) : OpR X (compareOp .NotEq) (rNeD K) := by subst h; exact op_neD hu
end
def RowAt (u d : Addr) (H : Hp) (p : Addr) (xs : List (Option Int)) : Prop := p ≠ u ∧ p ≠ d ∧ H p = some (.tup (xs.map nv))
theorem paired_same {u d : Addr} {H H' : Hp} (S : Same H H') : ∀ {ps : List Addr} {L : List (List (Option Int))}, Paired (RowAt u d H) ps L → Paired (RowAt u d H') ps L
  | _, _, .nil => .nil
  | _, _, .cons h t => .cons ⟨h.1, h.2.1, S _ _ h.2.2⟩ (paired_same S t)
theorem paired_snoc {α β : Type} {R : α → β → Prop} {x : α} {y : β} (h : R x y) : ∀ {xs : List α} {ys : List β}, Paired R xs ys → Paired R (xs ++ [x]) (ys ++ [y])
  | _, _, .nil => .cons h .nil
  | _, _, .cons r t => .cons r (paired_snoc h t)
abbrev someF : List (Option Int) → Bool := fun xs => xs.any Option.isSome

theorem cut_loY {u d : Addr} {H : Hp} {xs : List V} {qs : List PyData} {j : Nat} (hx : DXs u d H xs qs) : DXs u d H (cutV xs none (some (j : Int))) (qs.take j) := by
  have e : cutV xs none (some (j : Int)) = xs.take j := by
    unfold cutV
    rw [HT.sIx_none, HT.sIx_nat, List.drop_zero, Nat.sub_zero]
    by_cases h : j ≤ xs.length
    · rw [Nat.min_eq_left h]
    · rw [Nat.min_eq_right (by omega), List.take_length, List.take_of_length_le (by omega)]
  rw [e]
  exact hx.take j
theorem paired_off {u d : Addr} {H H' : Hp} (O : Off u d H H') : ∀ {ps : List Addr} {L : List (List (Option Int))}, Paired (RowAt u d H) ps L → Paired (RowAt u d H') ps L
  | _, _, .nil => .nil
  | _, _, .cons h t => .cons ⟨h.1, h.2.1, O _ _ h.1 h.2.1 h.2.2⟩ (paired_off O t)
theorem paired_put {u d D : Addr} {H : Hp} {vs ws : List V} (hD : H D = some (.lst vs)) : ∀ {ps : List Addr} {L : List (List (Option Int))}, Paired (RowAt u d H) ps L → Paired (RowAt u d (upd H D (.lst ws))) ps L
  | _, _, .nil => .nil
  | _, _, .cons h t => .cons ⟨h.1, h.2.1, by rw [upd_ne (ne_of h.2.2 hD (by intro z; cases z))]; exact h.2.2⟩ (paired_put hD t)
theorem sm_sb {b t : Nat} {q : PyData} (h : Sb b t q) (hb : b ≤ 2000000) (ht : t ≤ 20) : Sm q := ⟨h.sh, Nat.le_trans h.sz hb, Nat.le_trans h.dp ht⟩
theorem walk_zipT {K : PySem.W.Frag} {a b : Addr} {xs ys : List V} {n : Nat} (hn : n = min xs.length ys.length) : Walk (ItzT K a b) n (fun H => SqT K H a xs ∧ SqT K H b ys) (YPair (fun i => xs[i]?) (fun i => ys[i]?)) := by
  subst hn
  refine ⟨fun i _ hi q => ?_, fun _ q => ⟨xs, ys, q.1, q.2, by omega⟩, fun i H v H' _ q y => ?_⟩
  · have h1 : i < xs.length := by omega
    have h2 : i < ys.length := by omega
    exact ⟨xs, ys, xs[i], ys[i], q.1, q.2, by simp [h1], by simp [h2]⟩
  · obtain ⟨T, x, z, h1, h2, h3, h4, h5⟩ := y
    exact ⟨T, x, z, h1, h2, h3, h4 xs q.1, h5 ys q.2⟩

end U

namespace U
open PySem PySem.Spec PyProof.Rows L2
/-- X(), X an own exception class without own __init__ -/
theorem pmk_own0 {X : Cx} {pos : Pos} {C : Addr} {bmB : List Value} {B newId initId : String} {x : Str} {p : Pos} (F : ExcBaseFacts B newId initId bmB) (q : PySem.W.excIn X.K C bmB newId = true) (gC : X.mg x = some (.ref C))
    (kC : PySem.W.keepIn X.K (.ref C) = true) (r : Raises X (.ref C)) (hg : Gl X x) (hdb : (x == ("__debug__" : Str)) = false := by decide) :
    PMk X (.Call (.Name x p) [] [] pos) (fun _ H Q => Q (.ref C) none H) := by
  intro pins s σ H Q I h
  refine wpAny_Call_Name_kw (ld_glob I hg gC ?_ hdb)
  refine PySem.W.callWith_K0 I.kIn kC ?_
  show wpAny _ _ (call (.ref C) []) _ _ _
  obtain ⟨bm, N, nm, qn, bs, hdct, sn, sub, ab, col, dd, k0, k1, k2, k3, k5, mN, hC, hN, hni, T⟩ := exc_obj I.kIn q
  refine wpAny_call_exc_subT F T hC hN hni (fun h' e hm => ?_) (Nat.zero_le _)
  exact mk_of I hm r h (I.hok.gone hm.new)
end U

/-! the abstract layer: what a def does to data, without the heap -/
namespace AL
def tl0 : Unit := ()
def tl1 : Unit := tl0
def tl2 : Unit := tl1
def tl3 : Unit := tl2
def tl4 : Unit := tl3
def tl5 : Unit := tl4
def tl6 : Unit := tl5
def tl7 : Unit := tl6
def tl8 : Unit := tl7
def tl9 : Unit := tl8
def tl10 : Unit := tl9
def tl11 : Unit := tl10
def tl12 : Unit := tl11
def tl13 : Unit := tl12
def tl14 : Unit := tl13
def tl15 : Unit := tl14
def tl16 : Unit := tl15
def tl17 : Unit := tl16
def tl18 : Unit := tl17
def tl19 : Unit := tl18
def tl20 : Unit := tl19
def tl21 : Unit := tl20
def tl22 : Unit := tl21
def tl23 : Unit := tl22
def tl24 : Unit := tl23
def tl25 : Unit := tl24
def tl26 : Unit := tl25
def tl27 : Unit := tl26
def tl28 : Unit := tl27
def tl29 : Unit := tl28
def tl30 : Unit := tl29
def tl31 : Unit := tl30
def tl32 : Unit := tl31
def tl33 : Unit := tl32
def tl34 : Unit := tl33
def tl35 : Unit := tl34
def tl36 : Unit := tl35
def tl37 : Unit := tl36
def tl38 : Unit := tl37
def tl39 : Unit := tl38
def tl40 : Unit := tl39
def tl41 : Unit := tl40
def tl42 : Unit := tl41
def tl43 : Unit := tl42
def tl44 : Unit := tl43
def tl45 : Unit := tl44
def tl46 : Unit := tl45
def tl47 : Unit := tl46
def tl48 : Unit := tl47
def tl49 : Unit := tl48
def tl50 : Unit := tl49
def tl51 : Unit := tl50
def tl52 : Unit := tl51
def tl53 : Unit := tl52
def tl54 : Unit := tl53
def tl55 : Unit := tl54
def tl56 : Unit := tl55
def tl57 : Unit := tl56
def tl58 : Unit := tl57
def tl59 : Unit := tl58
def tl60 : Unit := tl59
def tl61 : Unit := tl60
def tl62 : Unit := tl61
def tl63 : Unit := tl62
def tl64 : Unit := tl63
def tl65 : Unit := tl64
def tl66 : Unit := tl65
def tl67 : Unit := tl66
def tl68 : Unit := tl67
def tl69 : Unit := tl68
def tl70 : Unit := tl69
def tl71 : Unit := tl70
def tl72 : Unit := tl71
def tl73 : Unit := tl72
def tl74 : Unit := tl73
def tl75 : Unit := tl74
def tl76 : Unit := tl75
def tl77 : Unit := tl76
def tl78 : Unit := tl77
def tl79 : Unit := tl78
def tl80 : Unit := tl79
def tl81 : Unit := tl80
def tl82 : Unit := tl81
def tl83 : Unit := tl82
def tl84 : Unit := tl83
def tl85 : Unit := tl84
def tl86 : Unit := tl85
def tl87 : Unit := tl86
def tl88 : Unit := tl87
def tl89 : Unit := tl88
def tl90 : Unit := tl89
def tl91 : Unit := tl90
def tl92 : Unit := tl91
def tl93 : Unit := tl92
def tl94 : Unit := tl93
def tl95 : Unit := tl94
def tl96 : Unit := tl95
def tl97 : Unit := tl96
def tl98 : Unit := tl97
def tl99 : Unit := tl98
def tl100 : Unit := tl99
def tl101 : Unit := tl100
def tl102 : Unit := tl101
def tl103 : Unit := tl102
def tl104 : Unit := tl103
def tl105 : Unit := tl104
def tl106 : Unit := tl105
def tl107 : Unit := tl106
def tl108 : Unit := tl107
def tl109 : Unit := tl108
def tl110 : Unit := tl109
def tl111 : Unit := tl110
def tl112 : Unit := tl111
def tl113 : Unit := tl112
def tl114 : Unit := tl113
def tl115 : Unit := tl114
def tl116 : Unit := tl115
def tl117 : Unit := tl116
def tl118 : Unit := tl117
def tl119 : Unit := tl118
def tl120 : Unit := tl119
def tl121 : Unit := tl120
def tl122 : Unit := tl121
def tl123 : Unit := tl122
def tl124 : Unit := tl123
def tl125 : Unit := tl124
def tl126 : Unit := tl125
def tl127 : Unit := tl126
def tl128 : Unit := tl127
def tl129 : Unit := tl128
def tl130 : Unit := tl129
def tl131 : Unit := tl130
def tl132 : Unit := tl131
def tl133 : Unit := tl132
def tl134 : Unit := tl133
def tl135 : Unit := tl134
def tl136 : Unit := tl135
def tl137 : Unit := tl136
def tl138 : Unit := tl137
def tl139 : Unit := tl138
def tl140 : Unit := tl139
def tl141 : Unit := tl140
def tl142 : Unit := tl141
def tl143 : Unit := tl142
def tl144 : Unit := tl143
def tl145 : Unit := tl144
def tl146 : Unit := tl145
def tl147 : Unit := tl146
def tl148 : Unit := tl147
def tl149 : Unit := tl148
def tl150 : Unit := tl149
def tl151 : Unit := tl150
def tl152 : Unit := tl151
def tl153 : Unit := tl152
def tl154 : Unit := tl153
def tl155 : Unit := tl154
def tl156 : Unit := tl155
def tl157 : Unit := tl156
def tl158 : Unit := tl157
def tl159 : Unit := tl158
def tl160 : Unit := tl159
def tl161 : Unit := tl160
def tl162 : Unit := tl161
def tl163 : Unit := tl162
def tl164 : Unit := tl163
def tl165 : Unit := tl164
def tl166 : Unit := tl165
def tl167 : Unit := tl166
def tl168 : Unit := tl167
def tl169 : Unit := tl168
def tl170 : Unit := tl169
def tl171 : Unit := tl170
def tl172 : Unit := tl171
def tl173 : Unit := tl172
def tl174 : Unit := tl173
def tl175 : Unit := tl174
def tl176 : Unit := tl175
def tl177 : Unit := tl176
def tl178 : Unit := tl177
def tl179 : Unit := tl178
def tl180 : Unit := tl179
def tl181 : Unit := tl180
def tl182 : Unit := tl181
def tl183 : Unit := tl182
def tl184 : Unit := tl183
def tl185 : Unit := tl184
def tl186 : Unit := tl185
def tl187 : Unit := tl186
def tl188 : Unit := tl187
def tl189 : Unit := tl188
def tl190 : Unit := tl189
def tl191 : Unit := tl190
def tl192 : Unit := tl191
def tl193 : Unit := tl192
def tl194 : Unit := tl193
def tl195 : Unit := tl194
def tl196 : Unit := tl195
def tl197 : Unit := tl196
def tl198 : Unit := tl197
def tl199 : Unit := tl198
def tl200 : Unit := tl199
def tl201 : Unit := tl200
def tl202 : Unit := tl201
def tl203 : Unit := tl202
def tl204 : Unit := tl203
def tl205 : Unit := tl204
def tl206 : Unit := tl205
def tl207 : Unit := tl206
def tl208 : Unit := tl207
def tl209 : Unit := tl208
def tl210 : Unit := tl209
def tl211 : Unit := tl210
def tl212 : Unit := tl211
def tl213 : Unit := tl212
def tl214 : Unit := tl213
def tl215 : Unit := tl214
def tl216 : Unit := tl215
def tl217 : Unit := tl216
def tl218 : Unit := tl217
def tl219 : Unit := tl218
def tl220 : Unit := tl219
def tl221 : Unit := tl220
def tl222 : Unit := tl221
def tl223 : Unit := tl222
def tl224 : Unit := tl223
def tl225 : Unit := tl224
def tl226 : Unit := tl225
def tl227 : Unit := tl226
def tl228 : Unit := tl227
def tl229 : Unit := tl228
def tl230 : Unit := tl229
def tl231 : Unit := tl230
def tl232 : Unit := tl231
def tl233 : Unit := tl232
def tl234 : Unit := tl233
def tl235 : Unit := tl234
def tl236 : Unit := tl235
def tl237 : Unit := tl236
def tl238 : Unit := tl237
def tl239 : Unit := tl238
def tl240 : Unit := tl239
def tl241 : Unit := tl240
def tl242 : Unit := tl241
def tl243 : Unit := tl242
def tl244 : Unit := tl243
def tl245 : Unit := tl244
def tl246 : Unit := tl245
def tl247 : Unit := tl246
def tl248 : Unit := tl247
def tl249 : Unit := tl248
def tl250 : Unit := tl249
def tl251 : Unit := tl250
def tl252 : Unit := tl251
def tl253 : Unit := tl252
def tl254 : Unit := tl253
def tl255 : Unit := tl254
def tl256 : Unit := tl255
def tl257 : Unit := tl256
def tl258 : Unit := tl257
def tl259 : Unit := tl258
def tl260 : Unit := tl259
def tl261 : Unit := tl260
def tl262 : Unit := tl261
def tl263 : Unit := tl262
def tl264 : Unit := tl263
def tl265 : Unit := tl264
def tl266 : Unit := tl265
def tl267 : Unit := tl266
def tl268 : Unit := tl267
def tl269 : Unit := tl268
def tl270 : Unit := tl269
def tl271 : Unit := tl270
def tl272 : Unit := tl271
def tl273 : Unit := tl272
def tl274 : Unit := tl273
def tl275 : Unit := tl274
def tl276 : Unit := tl275
def tl277 : Unit := tl276
def tl278 : Unit := tl277
def tl279 : Unit := tl278
def tl280 : Unit := tl279
def tl281 : Unit := tl280
def tl282 : Unit := tl281
def tl283 : Unit := tl282
def tl284 : Unit := tl283
def tl285 : Unit := tl284
def tl286 : Unit := tl285
def tl287 : Unit := tl286
def tl288 : Unit := tl287
def tl289 : Unit := tl288
def tl290 : Unit := tl289
def tl291 : Unit := tl290
def tl292 : Unit := tl291
def tl293 : Unit := tl292
def tl294 : Unit := tl293
def tl295 : Unit := tl294
def tl296 : Unit := tl295
def tl297 : Unit := tl296
def tl298 : Unit := tl297
def tl299 : Unit := tl298
def tl300 : Unit := tl299
def tl301 : Unit := tl300
def tl302 : Unit := tl301
def tl303 : Unit := tl302
def tl304 : Unit := tl303
def tl305 : Unit := tl304
def tl306 : Unit := tl305
def tl307 : Unit := tl306
def tl308 : Unit := tl307
def tl309 : Unit := tl308
def tl310 : Unit := tl309
def tl311 : Unit := tl310
def tl312 : Unit := tl311
def tl313 : Unit := tl312
def tl314 : Unit := tl313
def tl315 : Unit := tl314
def tl316 : Unit := tl315
def tl317 : Unit := tl316
def tl318 : Unit := tl317
def tl319 : Unit := tl318
def tl320 : Unit := tl319
def tl321 : Unit := tl320
def tl322 : Unit := tl321
def tl323 : Unit := tl322
def tl324 : Unit := tl323
def tl325 : Unit := tl324
def tl326 : Unit := tl325
def tl327 : Unit := tl326
def tl328 : Unit := tl327
def tl329 : Unit := tl328
def tl330 : Unit := tl329
def tl331 : Unit := tl330
def tl332 : Unit := tl331
def tl333 : Unit := tl332
def tl334 : Unit := tl333
def tl335 : Unit := tl334
def tl336 : Unit := tl335
def tl337 : Unit := tl336
def tl338 : Unit := tl337
def tl339 : Unit := tl338
def tl340 : Unit := tl339
def tl341 : Unit := tl340
def tl342 : Unit := tl341
def tl343 : Unit := tl342
def tl344 : Unit := tl343
def tl345 : Unit := tl344
def tl346 : Unit := tl345
def tl347 : Unit := tl346
def tl348 : Unit := tl347
def tl349 : Unit := tl348
def tl350 : Unit := tl349
def tl351 : Unit := tl350
def tl352 : Unit := tl351
def tl353 : Unit := tl352
def tl354 : Unit := tl353
def tl355 : Unit := tl354
def tl356 : Unit := tl355
def tl357 : Unit := tl356
def tl358 : Unit := tl357
def tl359 : Unit := tl358
def tl360 : Unit := tl359
def tl361 : Unit := tl360
def tl362 : Unit := tl361
def tl363 : Unit := tl362
def tl364 : Unit := tl363
def tl365 : Unit := tl364
def tl366 : Unit := tl365
def tl367 : Unit := tl366
def tl368 : Unit := tl367
def tl369 : Unit := tl368
def tl370 : Unit := tl369
def tl371 : Unit := tl370
def tl372 : Unit := tl371
def tl373 : Unit := tl372
def tl374 : Unit := tl373
def tl375 : Unit := tl374
def tl376 : Unit := tl375
def tl377 : Unit := tl376
def tl378 : Unit := tl377
def tl379 : Unit := tl378
def tl380 : Unit := tl379
def tl381 : Unit := tl380
def tl382 : Unit := tl381
def tl383 : Unit := tl382
def tl384 : Unit := tl383
def tl385 : Unit := tl384
def tl386 : Unit := tl385
def tl387 : Unit := tl386
def tl388 : Unit := tl387
def tl389 : Unit := tl388
def tl390 : Unit := tl389
def tl391 : Unit := tl390
def tl392 : Unit := tl391
def tl393 : Unit := tl392
def tl394 : Unit := tl393
def tl395 : Unit := tl394
def tl396 : Unit := tl395
def tl397 : Unit := tl396
def tl398 : Unit := tl397
def tl399 : Unit := tl398
def tl400 : Unit := tl399
open PySem PySem.Spec PyProof.Rows L2 RW RZ PySem.RW U
inductive AR where
  | urn
  | v (q : PyData)
inductive AV where
  | urn
  | dat (q : PyData)
  | own (qs : List PyData)
structure AX where
  cls : Str
  arg : Option PyData
abbrev AEnv := List (Option AV)
abbrev AK := AR → Prop
abbrev AXK := AX → Prop
abbrev UT := Hp → Addr → Addr → Addr → Prop
class UOk (At : UT) : Prop where
  same : ∀ {H H' : Hp} {u d m : Addr}, At H u d m → Same H H' → At H' u d m
  put : ∀ {H : Hp} {u d m a : Addr} {o : HO}, At H u d m → a ≠ u → a ≠ d → a ≠ m → At (upd H a o) u d m
  nfree : ∀ {H : Hp} {u d m p : Addr}, At H u d m → H p = none → p ≠ u ∧ p ≠ d ∧ p ≠ m
structure Stp (At : UT) (u d m : Addr) (H H0 H' H0' : Hp) : Prop where
  off : Off u d H H'
  off0 : Off u d H0 H0'
  own : ∀ b, b ≠ u → b ≠ d → H b ≠ none → H0 b = none → H0' b = none
  sub : Off u d H0' H'
  at_ : At H' u d m
section
variable {At : UT} {u d m : Addr} {H H0 H1 H01 H2 H02 He He0 : Hp}
theorem some_of {H : Hp} {b : Addr} (h : H b ≠ none) : ∃ o, H b = some o := by
  cases e : H b with
  | none => exact absurd e h
  | some o => exact ⟨o, rfl⟩
theorem Off.ne (O : Off u d H H1) {b : Addr} (h1 : b ≠ u) (h2 : b ≠ d) (h : H b ≠ none) : H1 b ≠ none := by
  obtain ⟨o, e⟩ := some_of h
  rw [O b o h1 h2 e]
  simp
theorem Stp.refl (s : Off u d H0 H) (a : At H u d m) : Stp At u d m H H0 H H0 := ⟨Off.refl _, Off.refl _, fun _ _ _ _ h => h, s, a⟩
theorem Stp.trans (a : Stp At u d m H H0 H1 H01) (b : Stp At u d m H1 H01 H2 H02) : Stp At u d m H H0 H2 H02 :=
  ⟨a.off.trans b.off, a.off0.trans b.off0, fun c c1 c2 h h0 => b.own c c1 c2 (Off.ne a.off c1 c2 h) (a.own c c1 c2 h h0), b.sub, b.at_⟩
theorem Stp.fresh [UOk At] (s : Off u d H0 H) (a : At H u d m) {p : Addr} {o : HO} (hp : H p = none) : Stp At u d m H H0 (upd H p o) (upd H0 p o) := by
  obtain ⟨n1, n2, n3⟩ := UOk.nfree a hp
  have h0 : H0 p = none := by
    cases e : H0 p with
    | none => rfl
    | some x => rw [s p x n1 n2 e] at hp; cases hp
  refine ⟨fun b x _ _ e => ?_, fun b x _ _ e => ?_, fun b _ _ h h' => ?_, fun b x b1 b2 e => ?_, UOk.same a (Same.fresh (Same.refl _) hp)⟩
  · rw [upd_ne (ne_of_none e hp)]; exact e
  · rw [upd_ne (ne_of_none e h0)]; exact e
  · have : b ≠ p := fun z => h (z ▸ hp)
    rw [upd_ne this]; exact h'
  · by_cases z : b = p
    · subst z
      rw [upd_same] at e ⊢
      exact e
    · rw [upd_ne z] at e ⊢
      exact s b x b1 b2 e
end
def RV (u d : Addr) (H0 : Hp) : V → AR → Prop
  | v, .urn => v = .ref u
  | v, .v q => DX u d H0 v q
theorem RV.off {u d : Addr} {H0 H01 : Hp} (O : Off u d H0 H01) : ∀ {v : V} {r : AR}, RV u d H0 v r → RV u d H01 v r
  | _, .urn, h => h
  | _, .v _, h => DX.off O h
abbrev RVs (u d : Addr) (H0 : Hp) : List V → List AR → Prop := Paired (RV u d H0)
theorem RVs.off {u d : Addr} {H0 H01 : Hp} (O : Off u d H0 H01) {vs : List V} {rs : List AR} (h : RVs u d H0 vs rs) : RVs u d H01 vs rs := Paired.mapP h fun _ _ r => r.off O
/-- one slot -/
def SlotOk (u d m : Addr) (He H H0 : Hp) : AV → Option (Option V) → Prop
  | .urn, s => s = some (some (.ref u))
  | .dat q, s => ∃ v, s = some (some v) ∧ DX u d H0 v q
  | .own qs, s => ∃ a vs, s = some (some (.ref a)) ∧ a ≠ u ∧ a ≠ d ∧ a ≠ m ∧ He a = none ∧ H a = some (.lst vs) ∧ H0 a = none ∧ DXs u d H0 vs qs
structure ST (At : UT) (u d m : Addr) (He He0 H H0 : Hp) (env : AEnv) (σ : L2.St) : Prop where
  stp : Stp At u d m He He0 H H0
  len : env.length = σ.length
  slot : ∀ (i : Nat) a, env[i]? = some (some a) → SlotOk u d m He H H0 a (σ[i]?)
  dis : ∀ (i j : Nat) qs rs b, env[i]? = some (some (.own qs)) → env[j]? = some (some (.own rs)) → σ[i]? = some (some (.ref b)) → σ[j]? = some (some (.ref b)) → i = j
section
variable {At : UT} {u d m : Addr} {H H0 H1 H01 H2 H02 He He0 : Hp} {env : AEnv} {σ : L2.St}
theorem ST.sub (S : ST At u d m He He0 H H0 env σ) : Off u d H0 H := S.stp.sub
theorem ST.at_ (S : ST At u d m He He0 H H0 env σ) : At H u d m := S.stp.at_
theorem ST.go (S : ST At u d m He He0 H H0 env σ) (T : Stp At u d m H H0 H1 H01) : ST At u d m He He0 H1 H01 env σ := by
  refine ⟨S.stp.trans T, S.len, fun i a e => ?_, S.dis⟩
  have h := S.slot i a e
  cases a with
  | urn => exact h
  | dat q => exact let ⟨v, h1, h2⟩ := h; ⟨v, h1, h2.off T.off0⟩
  | own qs =>
    obtain ⟨a, vs, h1, h2, h3, h4, h5, h6, h7, h8⟩ := h
    exact ⟨a, vs, h1, h2, h3, h4, h5, T.off _ _ h2 h3 h6, T.own a h2 h3 (by rw [h6]; simp) h7, h8.off T.off0⟩
end
/-- what is wanted of a value -/
def PK (At : UT) (u d m : Addr) (H H0 : Hp) (Q : VK) : AK := fun r => ∀ v H' H0', Stp At u d m H H0 H' H0' → RV u d H0' v r → Q v H'
def PKs (At : UT) (u d m : Addr) (H H0 : Hp) (Q : List V → Hp → Prop) : List AR → Prop := fun rs => ∀ vs H' H0', Stp At u d m H H0 H' H0' → RVs u d H0' vs rs → Q vs H'
def PB (At : UT) (u d m : Addr) (H H0 : Hp) (Q : Bool → Hp → Prop) : Bool → Prop := fun b => ∀ H' H0', Stp At u d m H H0 H' H0' → Q b H'
/-- a new list -/
def PL (At : UT) (u d m : Addr) (H H0 : Hp) (Q : VK) : List PyData → Prop := fun qs => ∀ a vs H' H0', Stp At u d m H H0 H' H0' → H a = none → H0' a = none → H' a = some (.lst vs) → DXs u d H0' vs qs → Q (.ref a) H'
/-- an exception: its class by name, its one attribute -/
def RX (mg : Str → Option Value) (u d : Addr) (H H0 : Hp) (c : Value) (dd : Option Addr) (x : AX) : Prop :=
  ∃ C, mg x.cls = some (.ref C) ∧ c = .ref C ∧ match x.arg with
    | none => dd = none
    | some q => ∃ a f v, dd = some a ∧ H a = some (.xd [(f, v)]) ∧ DX u d H0 v q
def PX (At : UT) (mg : Str → Option Value) (u d m : Addr) (H H0 : Hp) (σ : L2.St) (W : WX) : AXK := fun x => ∀ c dd H' H0', Stp At u d m H H0 H' H0' → RX mg u d H' H0' c dd x → W c dd σ H'
section
variable {At : UT} {mg : Str → Option Value} {u d m : Addr} {H H0 H1 H01 : Hp} {σ : L2.St} {W : WX}
theorem PK.go {Q : VK} {r : AR} (T : Stp At u d m H H0 H1 H01) (h : PK At u d m H H0 Q r) : PK At u d m H1 H01 Q r := fun v H' H0' S => h v H' H0' (T.trans S)
theorem PKs.go {Q : List V → Hp → Prop} {r : List AR} (T : Stp At u d m H H0 H1 H01) (h : PKs At u d m H H0 Q r) : PKs At u d m H1 H01 Q r := fun v H' H0' S => h v H' H0' (T.trans S)
theorem PB.go {Q : Bool → Hp → Prop} {r : Bool} (T : Stp At u d m H H0 H1 H01) (h : PB At u d m H H0 Q r) : PB At u d m H1 H01 Q r := fun H' H0' S => h H' H0' (T.trans S)
theorem PX.go {x : AX} (T : Stp At u d m H H0 H1 H01) (h : PX At mg u d m H H0 σ W x) : PX At mg u d m H1 H01 σ W x := fun c dd H' H0' S => h c dd H' H0' (T.trans S)
end
abbrev AE := AEnv → AK → AXK → Prop
abbrev AA := AEnv → (List AR → Prop) → AXK → Prop
abbrev AT := AEnv → (Bool → Prop) → AXK → Prop
abbrev AL_ := AEnv → (List PyData → Prop) → AXK → Prop
def MonoG {α : Type} (a : AEnv → (α → Prop) → AXK → Prop) : Prop := ∀ env (Q Q' : α → Prop) (E E' : AXK), (∀ r, Q r → Q' r) → (∀ x, E x → E' x) → a env Q E → a env Q' E'
structure PEA (At : UT) (X : Cx) (W : WX) (e : Expr) (a : AE) : Prop where
  run : PE X e fun σ H Q => ∃ u d m He He0 H0 env, ST At u d m He He0 H H0 env σ ∧ a env (PK At u d m H H0 Q) (PX At X.mg u d m H H0 σ W)
  mono : MonoG a
structure PAA (At : UT) (X : Cx) (W : WX) (es : List Expr) (a : AA) : Prop where
  run : PA X es fun σ H Q => ∃ u d m He He0 H0 env, ST At u d m He He0 H H0 env σ ∧ a env (PKs At u d m H H0 Q) (PX At X.mg u d m H H0 σ W)
  mono : MonoG a
structure PTA (At : UT) (X : Cx) (W : WX) (e : Expr) (a : AT) : Prop where
  run : PT X e fun σ H Q => ∃ u d m He He0 H0 env, ST At u d m He He0 H H0 env σ ∧ a env (PB At u d m H H0 Q) (PX At X.mg u d m H H0 σ W)
  mono : MonoG a
structure PWA (At : UT) (X : Cx) (W : WX) (e : Expr) (a : AT) : Prop where
  run : PW X e fun σ H Q => ∃ u d m He He0 H0 env, ST At u d m He He0 H H0 env σ ∧ a env (PB At u d m H H0 Q) (PX At X.mg u d m H H0 σ W)
  mono : MonoG a
structure PEL (At : UT) (X : Cx) (W : WX) (e : Expr) (a : AL_) : Prop where
  run : PE X e fun σ H Q => ∃ u d m He He0 H0 env, ST At u d m He He0 H H0 env σ ∧ a env (PL At u d m H H0 Q) (PX At X.mg u d m H H0 σ W)
  mono : MonoG a
theorem pt_imp {X : Cx} {e : Expr} {t S : TT} (h : PT X e t) (hs : ∀ σ H Q, S σ H Q → t σ H Q) : PT X e S := ⟨fun pins s σ H Q I q => h.run pins s σ H Q I (hs σ H Q q)⟩
theorem pw_imp {X : Cx} {e : Expr} {t S : TT} (h : PW X e t) (hs : ∀ σ H Q, S σ H Q → t σ H Q) : PW X e S := ⟨fun wh pins s σ H Q I q => h.run wh pins s σ H Q I (hs σ H Q q)⟩
section
variable {At : UT} [UOk At] {X : Cx} {W : WX} {e e1 e2 e3 : Expr} {es : List Expr} {a b c : AE} {aa bb : AA} {pos : Pos}
/-! ### constants, names -/
def aVal (q : PyData) : AE := fun _ Q _ => (fun (_ : Unit) => Q (.v q)) tl400
theorem mono_val {q : PyData} : MonoG (aVal q) := fun _ _ _ _ _ h _ k => h _ k
theorem pea_int {i j} : PEA At X W (.Constant (.int i) j pos) (aVal (.int i)) := ⟨pe_imp pe_int fun σ H Q ⟨u, d, m, He, He0, H0, env, S, k⟩ => k _ _ _ (.refl S.sub S.at_) (.int i), mono_val⟩
theorem pea_bl {i j} : PEA At X W (.Constant (.bool i) j pos) (aVal (.bool i)) := ⟨pe_imp pe_bl fun σ H Q ⟨u, d, m, He, He0, H0, env, S, k⟩ => k _ _ _ (.refl S.sub S.at_) (.bl i), mono_val⟩
theorem pea_non {j} : PEA At X W (.Constant .none j pos) (aVal .none) := ⟨pe_imp pe_non fun σ H Q ⟨u, d, m, He, He0, H0, env, S, k⟩ => k _ _ _ (.refl S.sub S.at_) .non, mono_val⟩
theorem pea_str {i j} : PEA At X W (.Constant (.str i) j pos) (aVal (.str i)) := ⟨pe_imp pe_str fun σ H Q ⟨u, d, m, He, He0, H0, env, S, k⟩ => k _ _ _ (.refl S.sub S.at_) (.str i), mono_val⟩
/-- a module's whole number -/
theorem pea_glob {x : Str} {i : Int} {t : Tok} (hg : Gl X x) (hm : X.mg x = some (.int i t)) (hd : (x == ("__debug__" : Str)) = false := by decide) : PEA At X W (.Name x pos) (aVal (.int i)) :=
  ⟨pe_imp (pe_glob hg hm (v := .int i) ⟨t, rfl⟩ hd) fun σ H Q ⟨u, d, m, He, He0, H0, env, S, k⟩ => k _ _ _ (.refl S.sub S.at_) (.int i), mono_val⟩
def aVar (i : Nat) : AE := fun env Q _ => (fun (_ : Unit) => match env[i]? with
  | some (some .urn) => Q .urn
  | some (some (.dat q)) => Q (.v q)
  | _ => False) tl400
theorem mono_var {i : Nat} : MonoG (aVar i) := fun env Q Q' _ _ h _ k => by
  unfold aVar at k ⊢
  try dsimp only at k ⊢
  split at k
  · exact h _ k
  · exact h _ k
  · exact k.elim
theorem pea_var {i : Nat} {x : Str} (hN : X.N[i]? = some x) (hv : Vis X.env.scope x) (hd : (x == ("__debug__" : Str)) = false := by decide) (hcd : (x == ("__classdict__" : Str)) = false := by decide) : PEA At X W (.Name x pos) (aVar i) := by
  refine ⟨pe_imp (pe_var hN hv hd hcd) fun σ H Q ⟨u, d, m, He, He0, H0, env, S, k⟩ => ?_, mono_var⟩
  unfold aVar at k
  try dsimp only at k
  split at k
  · rename_i e
    exact ⟨_, S.slot i _ e, k _ _ _ (.refl S.sub S.at_) rfl⟩
  · rename_i q e
    obtain ⟨v, h1, h2⟩ := S.slot i _ e
    exact ⟨v, h1, k _ _ _ (.refl S.sub S.at_) h2⟩
  · exact k.elim
/-! ### operators -/
abbrev AF2 := AR → AR → AK → Prop
structure Op2 (At : UT) (r : R2) (f : AF2) : Prop where
  ok : ∀ u d m H H0 x y rx ry Q, At H u d m → Off u d H0 H → RV u d H0 x rx → RV u d H0 y ry → f rx ry (PK At u d m H H0 Q) → r x y H Q
  mono : ∀ rx ry Q Q', (∀ r, Q r → Q' r) → f rx ry Q → f rx ry Q'
def aBin (f : AF2) (a b : AE) : AE := fun env Q E => (fun (_ : Unit) => a env (fun x => b env (fun y => f x y Q) E) E) tl400
theorem mono_bin {f : AF2} {r : R2} (o : Op2 At r f) (ha : MonoG a) (hb : MonoG b) : MonoG (aBin f a b) := fun env Q Q' E E' h hx k => ha env _ _ E E' (fun x kx => hb env _ _ E E' (fun y ky => o.mono _ _ _ _ h ky) hx kx) hx k
/-- both sides, then r -/
theorem two_go {r : R2} {f : AF2} (o : Op2 At r f) (ha : PEA At X W e1 a) (hb : PEA At X W e2 b) {σ : L2.St} {H : Hp} {Q : VK} (h : ∃ u d m He He0 H0 env, ST At u d m He He0 H H0 env σ ∧ aBin f a b env (PK At u d m H H0 Q) (PX At X.mg u d m H H0 σ W)) :
    tOp r (fun σ H Q => ∃ u d m He He0 H0 env, ST At u d m He He0 H H0 env σ ∧ a env (PK At u d m H H0 Q) (PX At X.mg u d m H H0 σ W)) (fun σ H Q => ∃ u d m He He0 H0 env, ST At u d m He He0 H H0 env σ ∧ b env (PK At u d m H H0 Q) (PX At X.mg u d m H H0 σ W)) σ H Q := by
  obtain ⟨u, d, m, He, He0, H0, env, S, k⟩ := h
  refine ⟨u, d, m, He, He0, H0, env, S, ha.mono env _ _ _ _ (fun x kx => ?_) (fun _ z => z) k⟩
  intro v H1 H01 T1 r1
  refine ⟨u, d, m, He, He0, H01, env, S.go T1, hb.mono env _ _ _ _ (fun y ky => ?_) (fun _ z => PX.go T1 z) kx⟩
  intro w H2 H02 T2 r2
  exact o.ok u d m H2 H02 v w _ _ Q T2.at_ T2.sub (r1.off T2.off0) r2 (o.mono _ _ _ _ (fun r z => PK.go T2 (PK.go T1 z)) ky)
theorem pea_op {op : Operator} {r : R2} {f : AF2} (ho : OpR X (binaryOp op) r) (o : Op2 At r f) (ha : PEA At X W e1 a) (hb : PEA At X W e2 b) : PEA At X W (.BinOp e1 op e2 pos) (aBin f a b) :=
  ⟨pe_imp (pe_op ho ha.run hb.run) fun σ H Q h => two_go o ha hb h, mono_bin o ha.mono hb.mono⟩
theorem pea_cmp {op : CmpOp} {r : R2} {f : AF2} (ho : OpR X (compareOp op) r) (o : Op2 At r f) (ha : PEA At X W e1 a) (hb : PEA At X W e2 b) (hm : behindInMarks op e2 = false) : PEA At X W (.Compare e1 [op] [e2] pos) (aBin f a b) :=
  ⟨pe_imp (pe_cmpR ho ha.run hb.run hm) fun σ H Q h => two_go o ha hb h, mono_bin o ha.mono hb.mono⟩
/-- truth -/
def truthD : PyData → Option Bool
  | .none => some false
  | .bool b => some b
  | .int i => some (i != 0)
  | .str y => if y.length ≤ 2000000 then some ((y.length : Int) != 0) else none
  | .list qs => some (!qs.isEmpty)
  | .tuple qs => some (!qs.isEmpty)
  | .dict _ => none
theorem tru_of {K : PySem.W.Frag} {u d : Addr} {H0 H : Hp} (O : Off u d H0 H) {v : V} {q : PyData} {c : Bool} (h : DX u d H0 v q) (t : truthD q = some c) : TruV K v H c := by
  cases h with
  | non => cases t; rfl
  | bl b => cases t; rfl
  | int i => cases t; rfl
  | str x =>
    simp only [truthD] at t
    split at t
    · cases t; exact ⟨Nat.le_of_lt (small6 ‹_›), rfl⟩
    · cases t
  | lst h1 h2 h3 h4 =>
    cases t
    refine .inl ⟨_, SqL.of (O _ _ h1 h2 h3), ?_⟩
    cases h4 <;> rfl
  | tup h1 h2 h3 h4 =>
    cases t
    refine .inr (.inl ⟨_, SqT.of (O _ _ h1 h2 h3), ?_⟩)
    cases h4 <;> rfl
  | dic h1 h2 h3 h4 => cases t
def onTru (r : AR) (Q : Bool → Prop) : Prop := (fun (_ : Unit) => match r with
  | .v q => match truthD q with
    | some c => Q c
    | none => False
  | .urn => False) tl400
theorem onTru_mono {r : AR} {Q Q' : Bool → Prop} (h : ∀ c, Q c → Q' c) (k : onTru r Q) : onTru r Q' := by
  unfold onTru at k ⊢
  try dsimp only at k ⊢
  split at k
  · split at k
    · exact h _ k
    · exact k
  · exact k
theorem onTru_get {r : AR} {Q : Bool → Prop} (k : onTru r Q) : ∃ q c, r = .v q ∧ truthD q = some c ∧ Q c := by
  unfold onTru at k
  try dsimp only at k
  split at k
  · split at k
    · exact ⟨_, _, rfl, ‹_›, k⟩
    · exact k.elim
  · exact k.elim
def aTst (a : AE) : AT := fun env Q E => (fun (_ : Unit) => a env (fun r => onTru r Q) E) tl400
theorem mono_tst (ha : MonoG a) : MonoG (aTst a) := fun env Q Q' E E' h hx k => ha env _ _ E E' (fun r z => onTru_mono h z) hx k
/-- a comparison, told as True or False -/
def aTstB (a : AE) : AT := fun env Q E => (fun (_ : Unit) => a env (fun r => match r with | .v (.bool c) => Q c | _ => False) E) tl400
theorem mono_tstB (ha : MonoG a) : MonoG (aTstB a) := fun env Q Q' E E' h hx k => ha env _ _ E E' (fun r z => by
  split at z
  · exact h _ z
  · exact z.elim) hx k
theorem pta_cmp {op : CmpOp} {r : R2} {f : AF2} (ho : OpR X (compareOp op) r) (o : Op2 At r f) (ha : PEA At X W e1 a) (hb : PEA At X W e2 b) (hm : behindInMarks op e2 = false) : PTA At X W (.Compare e1 [op] [e2] pos) (aTstB (aBin f a b)) := by
  refine ⟨pt_imp (pt_cmpR ho ha.run hb.run hm) fun σ H Q ⟨u, d, m, He, He0, H0, env, S, k⟩ => two_go o ha hb ⟨u, d, m, He, He0, H0, env, S, mono_bin o ha.mono hb.mono env _ _ _ _ (fun rr z => ?_) (fun _ z => z) k⟩, mono_tstB (mono_bin o ha.mono hb.mono)⟩
  intro v H1 H01 T1 r1
  split at z
  · cases r1
    exact ⟨_, rfl, z _ _ T1⟩
  · exact z.elim
theorem pta_val (ha : PEA At X W e a) (he : ∀ whole, isTrue e X.env whole = (do let v ← whole; standAt e.pos; holding [v] (truthy v)) := by intro _; rfl) : PTA At X W e (aTst a) := by
  refine ⟨pt_imp (pt_truth ha.run he) fun σ H Q ⟨u, d, m, He, He0, H0, env, S, k⟩ => ⟨u, d, m, He, He0, H0, env, S, ha.mono env _ _ _ _ (fun rr z => ?_) (fun _ z => z) k⟩, mono_tst ha.mono⟩
  intro v H1 H01 T1 r1
  obtain ⟨q, c, rfl, tq, z⟩ := onTru_get z
  exact ⟨c, tru_of T1.sub r1 tq, z _ _ T1⟩
abbrev AF1 := AR → AK → Prop
structure Op1 (At : UT) (r : V → Hp → VK → Prop) (f : AF1) : Prop where
  ok : ∀ u d m H H0 x rx Q, At H u d m → Off u d H0 H → RV u d H0 x rx → f rx (PK At u d m H H0 Q) → r x H Q
  mono : ∀ rx Q Q', (∀ r, Q r → Q' r) → f rx Q → f rx Q'
def aUn (f : AF1) (a : AE) : AE := fun env Q E => (fun (_ : Unit) => a env (fun x => f x Q) E) tl400
theorem mono_un {f : AF1} {r : V → Hp → VK → Prop} (o : Op1 At r f) (ha : MonoG a) : MonoG (aUn f a) := fun env Q Q' E E' h hx k => ha env _ _ E E' (fun x kx => o.mono _ _ _ h kx) hx k
theorem pea_un {op : UnaryOp} {r : V → Hp → VK → Prop} {f : AF1} (ho : UnR X (unaryOp op) r) (o : Op1 At r f) (ha : PEA At X W e a) : PEA At X W (.UnaryOp op e pos) (aUn f a) := by
  refine ⟨pe_imp (pe_un ho ha.run) fun σ H Q ⟨u, d, m, He, He0, H0, env, S, k⟩ => ⟨u, d, m, He, He0, H0, env, S, ha.mono env _ _ _ _ (fun rr z => ?_) (fun _ z => z) k⟩, mono_un o ha.mono⟩
  intro v H1 H01 T1 r1
  exact o.ok u d m H1 H01 v _ Q T1.at_ T1.sub r1 (o.mono _ _ _ (fun r z => PK.go T1 z) z)
/-! ### argument lists, tuples, lists -/
def aNil : AA := fun _ Q _ => (fun (_ : Unit) => Q []) tl400
def aCons (a : AE) (b : AA) : AA := fun env Q E => (fun (_ : Unit) => a env (fun x => b env (fun xs => Q (x :: xs)) E) E) tl400
theorem paa_nil : PAA At X W [] aNil := ⟨pa_imp pa_nil fun σ H Q ⟨u, d, m, He, He0, H0, env, S, k⟩ => k _ _ _ (.refl S.sub S.at_) .nil, fun _ _ _ _ _ h _ k => h _ k⟩
theorem paa_cons (ha : PEA At X W e a) (hb : PAA At X W es bb) (hs : starEach (e :: es) X.env = (false, eval e X.env) :: starEach es X.env := by rfl) : PAA At X W (e :: es) (aCons a bb) := by
  refine ⟨pa_imp (pa_cons ha.run hb.run hs) fun σ H Q ⟨u, d, m, He, He0, H0, env, S, k⟩ => ⟨u, d, m, He, He0, H0, env, S, ha.mono env _ _ _ _ (fun x kx => ?_) (fun _ z => z) k⟩, fun env Q Q' E E' h hx k => ha.mono env _ _ E E' (fun x kx => hb.mono env _ _ E E' (fun y ky => h _ ky) hx kx) hx k⟩
  intro v H1 H01 T1 r1
  refine ⟨u, d, m, He, He0, H01, env, S.go T1, hb.mono env _ _ _ _ (fun y ky => ?_) (fun _ z => PX.go T1 z) kx⟩
  intro w H2 H02 T2 r2
  exact ky _ _ _ (T1.trans T2) (.cons (r1.off T2.off0) r2)
/-- *e -/
def itemsA : AR → Option (List PyData)
  | .v (.list qs) => some qs
  | .v (.tuple qs) => some qs
  | _ => none
def aStar (a : AE) (b : AA) : AA := fun env Q E => (fun (_ : Unit) => a env (fun x => match itemsA x with
  | some qs => b env (fun xs => Q (qs.map AR.v ++ xs)) E
  | none => False) E) tl400
theorem rvs_of {u d : Addr} {H : Hp} : ∀ {vs : List V} {qs : List PyData}, DXs u d H vs qs → RVs u d H vs (qs.map AR.v)
  | _, _, .nil => .nil
  | _, _, .cons h t => .cons h (rvs_of t)
theorem rvs_app {u d : Addr} {H : Hp} : ∀ {vs ws : List V} {qs rs : List AR}, RVs u d H vs qs → RVs u d H ws rs → RVs u d H (vs ++ ws) (qs ++ rs)
  | _, _, _, _, .nil, s => s
  | _, _, _, _, .cons h r, s => .cons h (rvs_app r s)
theorem items_of {u d : Addr} {H H0 : Hp} {K : PySem.W.Frag} (O : Off u d H0 H) {x : AR} {qs : List PyData} (h : itemsA x = some qs) {v : V} (r : RV u d H0 v x) : ∃ p xs, v = .ref p ∧ (SqT K H p xs ∨ SqL K H p xs) ∧ DXs u d H0 xs qs := by
  cases x with
  | urn => cases h
  | v q =>
    have r : DX u d H0 v q := r
    cases r with
    | lst h1 h2 h3 h4 => cases h; exact ⟨_, _, rfl, .inr (SqL.of (O _ _ h1 h2 h3)), h4⟩
    | tup h1 h2 h3 h4 => cases h; exact ⟨_, _, rfl, .inl (SqT.of (O _ _ h1 h2 h3)), h4⟩
    | _ => cases h
theorem paa_star {p : Pos} (ha : PEA At X W e a) (hb : PAA At X W es bb) (hs : starEach (.Starred e p :: es) X.env = (true, eval e X.env) :: starEach es X.env := by rfl) : PAA At X W (.Starred e p :: es) (aStar a bb) := by
  refine ⟨pa_imp (StX.pa_star ha.run hb.run hs) fun σ H Q ⟨u, d, m, He, He0, H0, env, S, k⟩ => ⟨u, d, m, He, He0, H0, env, S, ha.mono env _ _ _ _ (fun x kx => ?_) (fun _ z => z) k⟩, fun env Q Q' E E' h hx k => ha.mono env _ _ E E' (fun x kx => ?_) hx k⟩
  · intro v H1 H01 T1 r1
    split at kx
    · rename_i qs eq
      obtain ⟨p, xs, rfl, hq, dx⟩ := items_of T1.sub eq r1
      refine ⟨p, xs, rfl, hq, u, d, m, He, He0, H01, env, S.go T1, hb.mono env _ _ _ _ (fun y ky => ?_) (fun _ z => PX.go T1 z) kx⟩
      intro w H2 H02 T2 r2
      exact ky _ _ _ (T1.trans T2) (rvs_app ((rvs_of dx).off T2.off0) r2)
    · exact kx.elim
  · split at kx
    · exact hb.mono env _ _ E E' (fun y ky => h _ ky) hx kx
    · exact kx
def datas : List AR → Option (List PyData)
  | [] => some []
  | .v q :: r => (datas r).map (q :: ·)
  | .urn :: _ => none
theorem datas_of {u d : Addr} {H : Hp} : ∀ {vs : List V} {rs : List AR} {qs : List PyData}, RVs u d H vs rs → datas rs = some qs → DXs u d H vs qs
  | _, _, _, .nil, e => by cases e; exact .nil
  | _, .urn :: _, _, .cons _ _, e => by cases e
  | _, .v q :: r, _, .cons h t, e => by
    unfold datas at e
    try dsimp only at e
    cases e2 : datas r with
    | none => rw [e2] at e; cases e
    | some l => rw [e2] at e; cases e; exact .cons h (datas_of t e2)
def aTup (a : AA) : AE := fun env Q E => (fun (_ : Unit) => a env (fun rs => match datas rs with
  | some qs => qs.length ≤ 2000000 ∧ Q (.v (.tuple qs))
  | none => False) E) tl400
theorem mono_tup (ha : MonoG aa) : MonoG (aTup aa) := fun env Q Q' E E' h hx k => ha env _ _ E E' (fun r z => by
  split at z
  · exact ⟨z.1, h _ z.2⟩
  · exact z.elim) hx k
theorem pea_tup {x1} (ha : PAA At X W es aa) : PEA At X W (.Tuple es x1 pos) (aTup aa) := by
  refine ⟨pe_imp (pe_tup ha.run) fun σ H Q ⟨u, d, m, He, He0, H0, env, S, k⟩ => ⟨u, d, m, He, He0, H0, env, S, ha.mono env _ _ _ _ (fun x kx => ?_) (fun _ z => z) k⟩, mono_tup ha.mono⟩
  intro vs H1 H01 T1 r1
  split at kx
  · rename_i qs eq
    have dx := datas_of r1 eq
    refine ⟨by rw [dx.length]; exact Nat.le_of_lt (small6 kx.1), fun p hp => ?_⟩
    have T2 : Stp At u d m H1 H01 (upd H1 p (.tup vs)) (upd H01 p (.tup vs)) := .fresh T1.sub T1.at_ hp
    obtain ⟨n1, n2, n3⟩ := UOk.nfree T1.at_ hp
    exact kx.2 _ _ _ (T1.trans T2) (.tup n1 n2 upd_same (dx.off T2.off0))
  · exact kx.elim
def aLst (a : AA) : AL_ := fun env Q E => (fun (_ : Unit) => a env (fun rs => match datas rs with
  | some qs => qs.length ≤ 2000000 ∧ Q qs
  | none => False) E) tl400
theorem pel_lst (ha : PAA At X W es aa) : PEL At X W (.List es pos) (aLst aa) := by
  refine ⟨pe_imp (pe_lst ha.run) fun σ H Q ⟨u, d, m, He, He0, H0, env, S, k⟩ => ⟨u, d, m, He, He0, H0, env, S, ha.mono env _ _ _ _ (fun x kx => ?_) (fun _ z => z) k⟩, fun env Q Q' E E' h hx k => ha.mono env _ _ E E' (fun r z => by
    split at z
    · exact ⟨z.1, h _ z.2⟩
    · exact z.elim) hx k⟩
  intro vs H1 H01 T1 r1
  split at kx
  · rename_i qs eq
    have dx := datas_of r1 eq
    refine ⟨by rw [dx.length]; exact Nat.le_of_lt (small6 kx.1), fun p hp => ?_⟩
    obtain ⟨n1, n2, n3⟩ := UOk.nfree T1.at_ hp
    have h0 : H01 p = none := by
      cases e : H01 p with
      | none => rfl
      | some x => have := T1.sub p x n1 n2 e; rw [hp] at this; cases this
    have hHp : H p = none := by
      cases e : H p with
      | none => rfl
      | some x => have := T1.off p x n1 n2 e; rw [hp] at this; cases this
    have T2 : Stp At u d m H1 H01 (upd H1 p (.lst vs)) H01 := ⟨fun b x _ _ e => by rw [upd_ne (ne_of_none e hp)]; exact e, Off.refl _, fun _ _ _ _ h => h, fun b x b1 b2 e => by
      have := T1.sub b x b1 b2 e
      rw [upd_ne (ne_of_none this hp)]; exact this, UOk.same T1.at_ (Same.fresh (Same.refl _) hp)⟩
    exact kx.2 p vs _ _ (T1.trans T2) hHp h0 upd_same dx
  · exact kx.elim
/-- a new list as data -/
def aOf (a : AL_) : AE := fun env Q E => (fun (_ : Unit) => a env (fun qs => Q (.v (.list qs))) E) tl400
theorem frz_step {u d m p : Addr} {H0 H H1 H01 : Hp} {vs : List V} (T1 : Stp At u d m H H0 H1 H01) (h : H p = none) (h0 : H01 p = none) (h1 : H1 p = some (.lst vs)) : Stp At u d m H H0 H1 (upd H01 p (.lst vs)) :=
  ⟨T1.off, fun b x b1 b2 e => by
    have := T1.off0 b x b1 b2 e
    rw [upd_ne (ne_of_none this h0)]; exact this, fun b b1 b2 e e0 => by
    have n : b ≠ p := fun z => e (z ▸ h)
    rw [upd_ne n]; exact T1.own b b1 b2 e e0, fun b x b1 b2 e => by
    by_cases z : b = p
    · subst z; rw [upd_same] at e; rw [h1]; exact e
    · rw [upd_ne z] at e; exact T1.sub b x b1 b2 e, T1.at_⟩
theorem pl_pk {u d m : Addr} {H H0 : Hp} {Q : VK} (hat : At H u d m) {qs : List PyData} (k : PK At u d m H H0 Q (.v (.list qs))) : PL At u d m H H0 Q qs := by
  intro p vs H1 H01 T1 h h0 h1 dx
  have T2 := frz_step T1 h h0 h1
  obtain ⟨n1, n2, n3⟩ := UOk.nfree hat h
  refine k _ _ _ T2 (.lst n1 n2 upd_same (dx.off fun b x b1 b2 e => ?_))
  rw [upd_ne (ne_of_none e h0)]; exact e
theorem pea_of {al : AL_} (ha : PEL At X W e al) : PEA At X W e (aOf al) := by
  refine ⟨pe_imp ha.run fun σ H Q ⟨u, d, m, He, He0, H0, env, S, k⟩ => ⟨u, d, m, He, He0, H0, env, S, ha.mono env _ _ _ _ (fun x kx => pl_pk S.at_ kx) (fun _ z => z) k⟩, fun env Q Q' E E' h hx k => ha.mono env _ _ E E' (fun r z => h _ z) hx k⟩
end
end AL

/-! the abstract layer: operators, built-ins -/
namespace AL
open PySem PySem.Spec PyProof.Rows L2 RW RZ PySem.RW U
def BigB (i : Int) : Prop := i.natAbs < 2 ^ 400000
section
variable {At : UT} [UOk At] {X : Cx}
theorem rv_int {u d : Addr} {H : Hp} {v : V} {i : Int} (h : RV u d H v (.v (.int i))) : v = .int i := by cases h; rfl
theorem rv_str {u d : Addr} {H : Hp} {v : V} {i : Str} (h : RV u d H v (.v (.str i))) : v = .str i := by cases h; rfl
theorem rv_bl {u d : Addr} {H : Hp} {v : V} {i : Bool} (h : RV u d H v (.v (.bool i))) : v = .bl i := by cases h; rfl
theorem rv_tup {u d : Addr} {H : Hp} {v : V} {qs : List PyData} (h : RV u d H v (.v (.tuple qs))) : ∃ a xs, v = .ref a ∧ a ≠ u ∧ a ≠ d ∧ H a = some (.tup xs) ∧ DXs u d H xs qs := by cases h; exact ⟨_, _, rfl, ‹_›, ‹_›, ‹_›, ‹_›⟩
theorem rv_lst {u d : Addr} {H : Hp} {v : V} {qs : List PyData} (h : RV u d H v (.v (.list qs))) : ∃ a xs, v = .ref a ∧ a ≠ u ∧ a ≠ d ∧ H a = some (.lst xs) ∧ DXs u d H xs qs := by cases h; exact ⟨_, _, rfl, ‹_›, ‹_›, ‹_›, ‹_›⟩
/-- a new tuple -/
theorem pk_tup {u d m : Addr} {H H0 : Hp} {Q : VK} {xs : List V} {qs : List PyData} (s : Off u d H0 H) (a : At H u d m) (dx : DXs u d H0 xs qs) (k : PK At u d m H H0 Q (.v (.tuple qs))) {p : Addr} (hp : H p = none) : Q (.ref p) (upd H p (.tup xs)) := by
  have T2 : Stp At u d m H H0 (upd H p (.tup xs)) (upd H0 p (.tup xs)) := .fresh s a hp
  obtain ⟨n1, n2, n3⟩ := UOk.nfree a hp
  exact k _ _ _ T2 (.tup n1 n2 upd_same (dx.off T2.off0))
theorem pk_now {u d m : Addr} {H H0 : Hp} {Q : VK} {r : AR} {v : V} (s : Off u d H0 H) (a : At H u d m) (k : PK At u d m H H0 Q r) (h : RV u d H0 v r) : Q v H := k v H H0 (.refl s a) h
/-! ### + -/
def fAdd : AF2
  | .v (.int i), .v (.int j), Q => Q (.v (.int (i + j)))
  | .v (.tuple a), .v (.tuple b), Q => a.length + b.length ≤ 2000000 ∧ Q (.v (.tuple (a ++ b)))
  | .v (.str a), .v (.str b), Q => a.length + b.length ≤ 2000000 ∧ Q (.v (.str (a ++ b)))
  | .v (.list a), .v (.list b), Q => a.length + b.length ≤ 2000000 ∧ Q (.v (.list (a ++ b)))
  | _, _, _ => False
def rAdd (K : PySem.W.Frag) : R2 := fun x y H Q => (rI0 fun i j => .int (i + j)) x y H Q ∨ (rCatA K x y H Q ∨ ((∃ i j, x = .str i ∧ y = .str j ∧ i.length + j.length ≤ sizeLine ∧ Q (.str (i ++ j)) H) ∨ rCat x y H Q))
theorem op_addA : OpR X (binaryOp .Add) (rAdd X.K) := op_add.or (op_catA.or (op_add_str.or op_cat))
/-- a new list, as data -/
theorem pk_lst {u d m : Addr} {H H0 : Hp} {Q : VK} {xs : List V} {qs : List PyData} (s : Off u d H0 H) (a : At H u d m) (dx : DXs u d H0 xs qs) (k : PK At u d m H H0 Q (.v (.list qs))) {p : Addr} (hp : H p = none) : Q (.ref p) (upd H p (.lst xs)) := by
  have T2 : Stp At u d m H H0 (upd H p (.lst xs)) (upd H0 p (.lst xs)) := .fresh s a hp
  obtain ⟨n1, n2, n3⟩ := UOk.nfree a hp
  exact k _ _ _ T2 (.lst n1 n2 upd_same (dx.off T2.off0))
theorem o_add {K : PySem.W.Frag} : Op2 At (rAdd K) fAdd := by
  refine ⟨fun u d m H H0 x y rx ry Q hat sub r1 r2 k => ?_, fun rx ry Q Q' h k => ?_⟩
  · unfold fAdd at k
    try dsimp only at k
    split at k
    · rw [rv_int r1, rv_int r2]
      exact .inl ⟨_, _, rfl, rfl, pk_now sub hat k (DX.int _)⟩
    · obtain ⟨a, xs, rfl, a1, a2, a3, a4⟩ := rv_tup r1
      obtain ⟨b, ys, rfl, b1, b2, b3, b4⟩ := rv_tup r2
      refine .inr (.inl ⟨a, b, xs, ys, rfl, rfl, SqT.of (sub _ _ a1 a2 a3), SqT.of (sub _ _ b1 b2 b3), by rw [a4.length, b4.length]; exact Nat.le_of_lt (small6 k.1), fun e => ?_, fun _ e => ?_, fun _ _ p hp => pk_tup sub hat (a4.append b4) k.2 hp⟩)
      · subst e
        cases a4
        exact pk_now sub hat k.2 (DX.tup b1 b2 b3 b4)
      · subst e
        cases b4
        have := k.2
        rw [List.append_nil] at this
        exact pk_now sub hat this (DX.tup a1 a2 a3 a4)
    · rw [rv_str r1, rv_str r2]
      exact .inr (.inr (.inl ⟨_, _, rfl, rfl, Nat.le_of_lt (small6 k.1), pk_now sub hat k.2 (DX.str _)⟩))
    · obtain ⟨a, xs, rfl, a1, a2, a3, a4⟩ := rv_lst r1
      obtain ⟨b, ys, rfl, b1, b2, b3, b4⟩ := rv_lst r2
      exact .inr (.inr (.inr ⟨a, b, xs, ys, rfl, rfl, sub _ _ a1 a2 a3, sub _ _ b1 b2 b3, by rw [a4.length, b4.length]; exact Nat.le_of_lt (small6 k.1), fun p hp => pk_lst sub hat (a4.append b4) k.2 hp⟩))
    · exact k.elim
  · unfold fAdd at k ⊢
    try dsimp only at k ⊢
    split at k
    · exact h _ k
    · exact ⟨k.1, h _ k.2⟩
    · exact ⟨k.1, h _ k.2⟩
    · exact ⟨k.1, h _ k.2⟩
    · exact k.elim
/-! ### ints -/
def fI (C : Int → Int → Prop) (g : Int → Int → PyData) : AF2
  | .v (.int i), .v (.int j), Q => C i j ∧ Q (.v (g i j))
  | _, _, _ => False
def fI0 (g : Int → Int → PyData) : AF2
  | .v (.int i), .v (.int j), Q => Q (.v (g i j))
  | _, _, _ => False
theorem o_I0i {g : Int → Int → Int} : Op2 At (rI0 fun i j => .int (g i j)) (fI0 fun i j => .int (g i j)) := by
  refine ⟨fun u d m H H0 x y rx ry Q hat sub r1 r2 k => ?_, fun rx ry Q Q' h k => ?_⟩
  · unfold fI0 at k
    try dsimp only at k
    split at k
    · rw [rv_int r1, rv_int r2]
      exact ⟨_, _, rfl, rfl, pk_now sub hat k (DX.int _)⟩
    · exact k.elim
  · unfold fI0 at k ⊢
    try dsimp only at k ⊢
    split at k
    · exact h _ k
    · exact k.elim
theorem o_I0b {g : Int → Int → Bool} : Op2 At (rI0 fun i j => .bl (g i j)) (fI0 fun i j => .bool (g i j)) := by
  refine ⟨fun u d m H H0 x y rx ry Q hat sub r1 r2 k => ?_, fun rx ry Q Q' h k => ?_⟩
  · unfold fI0 at k
    try dsimp only at k
    split at k
    · rw [rv_int r1, rv_int r2]
      exact ⟨_, _, rfl, rfl, pk_now sub hat k (DX.bl _)⟩
    · exact k.elim
  · unfold fI0 at k ⊢
    try dsimp only at k ⊢
    split at k
    · exact h _ k
    · exact k.elim
theorem o_Ii {C D : Int → Int → Prop} {g : Int → Int → Int} (hc : ∀ i j, D i j → C i j) : Op2 At (rI C fun i j => .int (g i j)) (fI D fun i j => .int (g i j)) := by
  refine ⟨fun u d m H H0 x y rx ry Q hat sub r1 r2 k => ?_, fun rx ry Q Q' h k => ?_⟩
  · unfold fI at k
    try dsimp only at k
    split at k
    · rw [rv_int r1, rv_int r2]
      exact ⟨_, _, rfl, rfl, hc _ _ k.1, pk_now sub hat k.2 (DX.int _)⟩
    · exact k.elim
  · unfold fI at k ⊢
    try dsimp only at k ⊢
    split at k
    · exact ⟨k.1, h _ k.2⟩
    · exact k.elim
abbrev fSub : AF2 := fI0 fun i j => .int (i - j)
abbrev fMod : AF2 := fI (fun _ j => j ≠ 0) fun i j => .int (i.fmod j)
abbrev fLt : AF2 := fI0 fun i j => .bool (decide (i < j))
abbrev fLe : AF2 := fI0 fun i j => .bool (decide (i ≤ j))
abbrev fGt : AF2 := fI0 fun i j => .bool (decide (j < i))
abbrev fGe : AF2 := fI0 fun i j => .bool (decide (j ≤ i))
theorem o_sub : Op2 At (rI0 fun i j => .int (i - j)) fSub := o_I0i
theorem o_mod : Op2 At (rI (fun _ j => j ≠ 0) fun i j => .int (i.fmod j)) fMod := o_Ii fun _ _ h => h
theorem o_lt : Op2 At (rI0 fun i j => .bl (decide (i < j))) fLt := o_I0b
theorem o_le : Op2 At (rI0 fun i j => .bl (decide (i ≤ j))) fLe := o_I0b
theorem o_gt : Op2 At (rI0 fun i j => .bl (decide (j < i))) fGt := o_I0b
theorem o_ge : Op2 At (rI0 fun i j => .bl (decide (j ≤ i))) fGe := o_I0b
/-- // by a small divisor, or a great one above 0 -/
def DivB (j : Int) : Prop := j ≠ 0 ∧ (j.natAbs < 1073741824 ∨ (0 < j ∧ j.natAbs < 2 ^ 9000))
abbrev fDiv : AF2 := fI (fun _ j => DivB j) fun i j => .int (i.fdiv j)
theorem op_divA : OpR X (binaryOp .FloorDiv) (fun x y H Q => rI CDivN (fun i j => .int (i.fdiv j)) x y H Q ∨ rI CDivW (fun i j => .int (i / j)) x y H Q) := op_fdivN.or op_fdivW
theorem o_div : Op2 At (fun x y H Q => rI CDivN (fun i j => .int (i.fdiv j)) x y H Q ∨ rI CDivW (fun i j => .int (i / j)) x y H Q) fDiv := by
  refine ⟨fun u d m H H0 x y rx ry Q hat sub r1 r2 k => ?_, fun rx ry Q Q' h k => ?_⟩
  · unfold fDiv fI at k
    try dsimp only at k
    split at k
    · rename_i i j
      rw [rv_int r1, rv_int r2]
      obtain ⟨⟨j0, h | ⟨h1, h2⟩⟩, k⟩ := k
      · exact .inl ⟨_, _, rfl, rfl, ⟨j0, h⟩, pk_now sub hat k (DX.int _)⟩
      · refine .inr ⟨_, _, rfl, rfl, wide_div h1 h2 (by decide) (by decide), ?_⟩
        have e : i / j = i.fdiv j := (Int.fdiv_eq_ediv_of_nonneg i (Int.le_of_lt h1)).symm
        show Q (.int (i / j)) H
        rw [e]
        exact pk_now sub hat k (DX.int _)
    · exact k.elim
  · unfold fDiv fI at k ⊢
    try dsimp only at k ⊢
    split at k
    · exact ⟨k.1, h _ k.2⟩
    · exact k.elim
/-- i ** j -/
abbrev fPow : AF2 := fI (fun i j => 0 ≤ j ∧ (Builtin.Int.intBits i : Int) * j ≤ 2 ^ 27) fun i j => .int (i ^ j.toNat)
theorem o_pow : Op2 At (rI (fun i j => 0 ≤ j ∧ (Builtin.Int.intBits i : Int) * j ≤ 2 ^ 27) fun i j => .int (i ^ j.toNat)) fPow := o_Ii fun _ _ h => h
/-! ### * -/
def fMul : AF2
  | .v (.int i), .v (.int j), Q => BigB i ∧ BigB j ∧ Q (.v (.int (i * j)))
  | .v (.tuple a), .v (.int k), Q => a ≠ [] ∧ a.length ≤ 1000 ∧ 0 ≤ k ∧ k ≤ 1000 ∧ Q (.v (.tuple (List.replicate k.toNat a).flatten))
  | .v (.list a), .v (.int k), Q => a.length * k.toNat ≤ 2000000 ∧ -1000000 ≤ k ∧ k ≤ 1000000 ∧ Q (.v (.list (List.replicate k.toNat a).flatten))
  | _, _, _ => False
def rMulA (K : PySem.W.Frag) : R2 := fun x y H Q => rI CMulW (fun i j => .int (i * j)) x y H Q ∨ (rRepX K x y H Q ∨ rRep x y H Q)
theorem op_mulA : OpR X (binaryOp .Mult) (rMulA X.K) := op_mulW.or (op_repX.or op_rep)
theorem dxs_flat {u d : Addr} {H : Hp} {vs : List V} {qs : List PyData} (h : DXs u d H vs qs) : ∀ n : Nat, DXs u d H (List.replicate n vs).flatten (List.replicate n qs).flatten
  | 0 => .nil
  | n + 1 => by
    rw [List.replicate_succ, List.replicate_succ, List.flatten_cons, List.flatten_cons]
    exact h.append (dxs_flat h n)
theorem o_mul {K : PySem.W.Frag} : Op2 At (rMulA K) fMul := by
  refine ⟨fun u d m H H0 x y rx ry Q hat sub r1 r2 k => ?_, fun rx ry Q Q' h k => ?_⟩
  · unfold fMul at k
    try dsimp only at k
    split at k
    · rw [rv_int r1, rv_int r2]
      exact .inl ⟨_, _, rfl, rfl, wide_mul k.1 k.2.1 (by decide) (by decide) (by decide), pk_now sub hat k.2.2 (DX.int _)⟩
    · obtain ⟨a, xs, rfl, a1, a2, a3, a4⟩ := rv_tup r1
      rw [rv_int r2]
      obtain ⟨k1, k2, k3, k4, k⟩ := k
      rename_i kk
      refine .inr (.inl ⟨a, _, xs, rfl, rfl, SqT.of (sub _ _ a1 a2 a3), fun e => ?_, k3, k4, by rw [a4.length]; exact k2, fun e => ?_, fun e p hp => pk_tup sub hat (dxs_flat a4 _) k hp⟩)
      · subst e
        cases a4
        exact k1 rfl
      · subst e
        have e2 : (List.replicate (1 : Int).toNat ‹List PyData›).flatten = ‹List PyData› := by
          show (List.replicate 1 _).flatten = _
          simp
        rw [e2] at k
        exact pk_now sub hat k (DX.tup a1 a2 a3 a4)
    · obtain ⟨a, xs, rfl, a1, a2, a3, a4⟩ := rv_lst r1
      rw [rv_int r2]
      obtain ⟨k1, k2, k3, k⟩ := k
      exact .inr (.inr ⟨a, _, xs, rfl, rfl, sub _ _ a1 a2 a3, by omega, by omega, by rw [a4.length]; exact Nat.le_of_lt (small6 k1), fun p hp => pk_lst sub hat (dxs_flat a4 _) k hp⟩)
    · exact k.elim
  · unfold fMul at k ⊢
    try dsimp only at k ⊢
    split at k
    · exact ⟨k.1, k.2.1, h _ k.2.2⟩
    · exact ⟨k.1, k.2.1, k.2.2.1, k.2.2.2.1, h _ k.2.2.2.2⟩
    · exact ⟨k.1, k.2.1, k.2.2.1, h _ k.2.2.2⟩
    · exact k.elim
/-! ### is None, == -/
def isNone : PyData → Bool
  | .none => true
  | _ => false
def fIs (neg : Bool) : AF2
  | .v q, .v .none, Q => Q (.v (.bool (if neg then !isNone q else isNone q)))
  | _, _, _ => False
theorem isNone_of {u d : Addr} {H : Hp} {v : V} {q : PyData} (h : DX u d H v q) : decide (v = .non) = isNone q := by
  cases h <;> simp [isNone]
theorem o_is : Op2 At (fun x y H Q => y = .non ∧ Q (.bl (decide (x = .non))) H) (fIs false) := by
  refine ⟨fun u d m H H0 x y rx ry Q hat sub r1 r2 k => ?_, fun rx ry Q Q' h k => ?_⟩
  · unfold fIs at k
    try dsimp only at k
    split at k
    · cases r2
      rw [isNone_of r1]
      exact ⟨rfl, pk_now sub hat k (DX.bl _)⟩
    · exact k.elim
  · unfold fIs at k ⊢
    try dsimp only at k ⊢
    split at k
    · exact h _ k
    · exact k.elim
theorem o_isnot : Op2 At (fun x y H Q => y = .non ∧ Q (.bl (!decide (x = .non))) H) (fIs true) := by
  refine ⟨fun u d m H H0 x y rx ry Q hat sub r1 r2 k => ?_, fun rx ry Q Q' h k => ?_⟩
  · unfold fIs at k
    try dsimp only at k
    split at k
    · cases r2
      rw [isNone_of r1]
      exact ⟨rfl, pk_now sub hat k (DX.bl _)⟩
    · exact k.elim
  · unfold fIs at k ⊢
    try dsimp only at k ⊢
    split at k
    · exact h _ k
    · exact k.elim
mutual
def noDict : PyData → Bool
  | .dict _ => false
  | .list qs | .tuple qs => noDicts qs
  | _ => true
def noDicts : List PyData → Bool
  | [] => true
  | q :: r => noDict q && noDicts r
end
mutual
theorem dp_of {K : PySem.W.Frag} {u d : Addr} {H0 H : Hp} (O : Off u d H0 H) : ∀ {v : V} {q : PyData}, DX u d H0 v q → noDict q = true → Dp K H v q
  | _, _, .non, _ => .non
  | _, _, .bl b, _ => .bl b
  | _, _, .int i, _ => .int i
  | _, _, .str x, _ => .str x
  | _, _, .lst h1 h2 h3 h4, e => .lst (SqL.of (O _ _ h1 h2 h3)) (dps_of O h4 (by simpa only [noDict] using e))
  | _, _, .tup h1 h2 h3 h4, e => .tup (SqT.of (O _ _ h1 h2 h3)) (dps_of O h4 (by simpa only [noDict] using e))
  | _, _, .dic h1 h2 h3 h4, e => by simp only [noDict] at e; cases e
theorem dps_of {K : PySem.W.Frag} {u d : Addr} {H0 H : Hp} (O : Off u d H0 H) : ∀ {v : List V} {q : List PyData}, DXs u d H0 v q → noDicts q = true → DpAll K H v q
  | _, _, .nil, _ => .nil
  | _, _, .cons h1 h2, e => by
    simp only [noDicts, Bool.and_eq_true] at e
    exact .cons (dp_of O h1 e.1) (dps_of O h2 e.2)
end
/-- what may be compared -/
structure EqOk (q : PyData) : Prop where
  nd : noDict q = true
  sh : SeqAt.shaped q = true
/-- .. or both are texts -/
def EqOk2 (a b : PyData) : Prop := (EqOk a ∧ EqOk b) ∨ ∃ x y, a = .str x ∧ b = .str y
def fEq (neg : Bool) : AF2
  | .v a, .v b, Q => EqOk2 a b ∧ Q (.v (.bool (if neg then !PyData.eqv a b else PyData.eqv a b)))
  | _, _, _ => False
def rEqA (K : PySem.W.Frag) : R2 := fun x y H Q => rEqD K x y H Q ∨ rEq x y H Q
def rNeA (K : PySem.W.Frag) : R2 := fun x y H Q => rNeD K x y H Q ∨ rNe x y H Q
theorem op_eqA (hu : X.A.units + 64 < cLine) : OpR X (compareOp .Eq) (rEqA X.K) := (op_eqD hu).or op_eq
theorem op_neA (hu : X.A.units + 64 < cLine) : OpR X (compareOp .NotEq) (rNeA X.K) := (op_neD hu).or op_ne
theorem o_eq {K : PySem.W.Frag} : Op2 At (rEqA K) (fEq false) := by
  refine ⟨fun u d m H H0 x y rx ry Q hat sub r1 r2 k => ?_, fun rx ry Q Q' h k => ?_⟩
  · unfold fEq at k
    try dsimp only at k
    split at k
    · obtain ⟨⟨e1, e2⟩ | ⟨a, b, rfl, rfl⟩, k⟩ := k
      · exact .inl ⟨_, _, dp_of sub r1 e1.nd, dp_of sub r2 e2.nd, e1.sh, e2.sh, pk_now sub hat k (DX.bl _)⟩
      · rw [rv_str r1, rv_str r2]
        refine .inr ⟨rfl, ?_⟩
        rw [dec_str]
        exact pk_now sub hat k (DX.bl _)
    · exact k.elim
  · unfold fEq at k ⊢
    try dsimp only at k ⊢
    split at k
    · exact ⟨k.1, h _ k.2⟩
    · exact k.elim
theorem o_ne {K : PySem.W.Frag} : Op2 At (rNeA K) (fEq true) := by
  refine ⟨fun u d m H H0 x y rx ry Q hat sub r1 r2 k => ?_, fun rx ry Q Q' h k => ?_⟩
  · unfold fEq at k
    try dsimp only at k
    split at k
    · obtain ⟨⟨e1, e2⟩ | ⟨a, b, rfl, rfl⟩, k⟩ := k
      · exact .inl ⟨_, _, dp_of sub r1 e1.nd, dp_of sub r2 e2.nd, e1.sh, e2.sh, pk_now sub hat k (DX.bl _)⟩
      · rw [rv_str r1, rv_str r2]
        refine .inr ⟨rfl, ?_⟩
        rw [dec_str]
        exact pk_now sub hat k (DX.bl _)
    · exact k.elim
  · unfold fEq at k ⊢
    try dsimp only at k ⊢
    split at k
    · exact ⟨k.1, h _ k.2⟩
    · exact k.elim
/-! ### in -/
def flatD : PyData → Bool
  | .none | .bool _ | .int _ | .str _ => true
  | _ => false
def toV : PyData → V
  | .bool b => .bl b
  | .int i => .int i
  | .str x => .str x
  | _ => .non
theorem toV_of {u d : Addr} {H : Hp} {v : V} {q : PyData} (h : DX u d H v q) (f : flatD q = true) : v = toV q ∧ flatV v = true := by
  cases h <;> first | exact ⟨rfl, rfl⟩ | cases f
theorem toVs_of {u d : Addr} {H : Hp} : ∀ {vs : List V} {qs : List PyData}, DXs u d H vs qs → qs.all flatD = true → vs = qs.map toV ∧ vs.all flatV = true
  | _, _, .nil, _ => ⟨rfl, rfl⟩
  | _, _, .cons h t, e => by
    simp only [List.all_cons, Bool.and_eq_true] at e
    obtain ⟨h1, h2⟩ := toV_of h e.1
    obtain ⟨h3, h4⟩ := toVs_of t e.2
    exact ⟨by rw [h1, h3]; rfl, by rw [List.all_cons, h2, h4]; rfl⟩
def inD (x : PyData) (qs : List PyData) : Bool := inV (toV x) (qs.map toV)
def fIn (neg : Bool) : AF2
  | .v x, s, Q => match itemsA s with
    | some qs => flatD x = true ∧ qs.all flatD = true ∧ Q (.v (.bool (if neg then !inD x qs else inD x qs)))
    | none => False
  | _, _, _ => False
theorem o_in {K : PySem.W.Frag} {neg : Bool} : Op2 At (rIn K neg) (fIn neg) := by
  refine ⟨fun u d m H H0 x y rx ry Q hat sub r1 r2 k => ?_, fun rx ry Q Q' h k => ?_⟩
  · unfold fIn at k
    try dsimp only at k
    split at k
    · split at k
      · rename_i eq
        obtain ⟨p, xs, rfl, hq, dx⟩ := items_of (K := K) sub eq r2
        obtain ⟨h1, h2⟩ := toV_of r1 k.1
        obtain ⟨h3, h4⟩ := toVs_of dx k.2.1
        refine ⟨p, xs, rfl, hq.symm, h2, h4, ?_⟩
        rw [h1, h3]
        exact pk_now sub hat k.2.2 (DX.bl _)
      · exact k.elim
    · exact k.elim
  · unfold fIn at k ⊢
    try dsimp only at k ⊢
    split at k
    · split at k
      · exact ⟨k.1, k.2.1, h _ k.2.2⟩
      · exact k.elim
    · exact k.elim
/-! ### unary -/
def fNeg : AF1
  | .v (.int i), Q => Q (.v (.int (-i)))
  | _, _ => False
theorem o_neg : Op1 At (rU fun i => .int (-i)) fNeg := by
  refine ⟨fun u d m H H0 x rx Q hat sub r1 k => ?_, fun rx Q Q' h k => ?_⟩
  · unfold fNeg at k
    try dsimp only at k
    split at k
    · rw [rv_int r1]
      exact ⟨_, rfl, pk_now sub hat k (DX.int _)⟩
    · exact k.elim
  · unfold fNeg at k ⊢
    try dsimp only at k ⊢
    split at k
    · exact h _ k
    · exact k.elim
end
end AL

/-! the abstract layer: calls of built-ins, what is walked, comprehensions -/
namespace AL
open PySem PySem.Spec PyProof.Rows L2 RW RZ PySem.RW U
section
variable {At : UT} [UOk At] {X : Cx} {W : WX} {e e1 e2 e3 : Expr} {es : List Expr} {a b c : AE} {aa bb : AA} {pos : Pos}
/-! ### and, or, not, if -/
def aAndT (a b : AT) : AT := fun env Q E => (fun (_ : Unit) => a env (fun c => (c = true → b env Q E) ∧ (c = false → Q false)) E) tl400
def aOrT (a b : AT) : AT := fun env Q E => (fun (_ : Unit) => a env (fun c => (c = true → Q true) ∧ (c = false → b env Q E)) E) tl400
def aNotT (a : AT) : AT := fun env Q E => (fun (_ : Unit) => a env (fun c => Q (!c)) E) tl400
variable {ta tb tc : AT} {rest : List Expr} {op : BoolOp}
theorem pwa_and1 (ha : PTA At X W e ta) : PWA At X W (.BoolOp .And [e] pos) ta := ⟨pw_and1 ha.run, ha.mono⟩
theorem pwa_or1 (ha : PTA At X W e ta) : PWA At X W (.BoolOp .Or [e] pos) ta := ⟨pw_or1 ha.run, ha.mono⟩
theorem mono_andT (ha : MonoG ta) (hb : MonoG tb) : MonoG (aAndT ta tb) := fun env Q Q' E E' h hx k => ha env _ _ E E' (fun c z => ⟨fun e => hb env _ _ E E' h hx (z.1 e), fun e => h _ (z.2 e)⟩) hx k
theorem mono_orT (ha : MonoG ta) (hb : MonoG tb) : MonoG (aOrT ta tb) := fun env Q Q' E E' h hx k => ha env _ _ E E' (fun c z => ⟨fun e => h _ (z.1 e), fun e => hb env _ _ E E' h hx (z.2 e)⟩) hx k
theorem pwa_and {b2 : Expr} (ha : PTA At X W e ta) (hb : PWA At X W (.BoolOp .And (b2 :: rest) pos) tb) : PWA At X W (.BoolOp .And (e :: b2 :: rest) pos) (aAndT ta tb) := by
  refine ⟨pw_imp (pw_and ha.run hb.run) fun σ H Q ⟨u, d, m, He, He0, H0, env, S, k⟩ => ⟨u, d, m, He, He0, H0, env, S, ha.mono env _ _ _ _ (fun c kx => ?_) (fun _ z => z) k⟩, mono_andT ha.mono hb.mono⟩
  intro H1 H01 T1
  refine iteB (fun e1 => ?_) fun e1 => kx.2 e1 _ _ T1
  exact ⟨u, d, m, He, He0, H01, env, S.go T1, hb.mono env _ _ _ _ (fun y ky => PB.go T1 ky) (fun _ z => PX.go T1 z) (kx.1 e1)⟩
theorem pwa_or {b2 : Expr} (ha : PTA At X W e ta) (hb : PWA At X W (.BoolOp .Or (b2 :: rest) pos) tb) : PWA At X W (.BoolOp .Or (e :: b2 :: rest) pos) (aOrT ta tb) := by
  refine ⟨pw_imp (pw_or ha.run hb.run) fun σ H Q ⟨u, d, m, He, He0, H0, env, S, k⟩ => ⟨u, d, m, He, He0, H0, env, S, ha.mono env _ _ _ _ (fun c kx => ?_) (fun _ z => z) k⟩, mono_orT ha.mono hb.mono⟩
  intro H1 H01 T1
  refine iteB (fun e1 => kx.1 e1 _ _ T1) fun e1 => ?_
  exact ⟨u, d, m, He, He0, H01, env, S.go T1, hb.mono env _ _ _ _ (fun y ky => PB.go T1 ky) (fun _ z => PX.go T1 z) (kx.2 e1)⟩
theorem pta_w (h : PWA At X W e ta) : PTA At X W e ta := ⟨h.run.pt, h.mono⟩
theorem pta_not (ha : PTA At X W e ta) : PTA At X W (.UnaryOp .Not e pos) (aNotT ta) :=
  ⟨pt_imp (pt_not ha.run) fun σ H Q ⟨u, d, m, He, He0, H0, env, S, k⟩ => ⟨u, d, m, He, He0, H0, env, S, ha.mono env _ _ _ _ (fun c kx H1 H01 T1 => kx _ _ T1) (fun _ z => z) k⟩, fun env Q Q' E E' h hx k => ha.mono env _ _ E E' (fun c z => h _ z) hx k⟩
/-- as values, by truth -/
def aAndV (a b : AE) : AE := fun env Q E => (fun (_ : Unit) => a env (fun r => onTru r fun c => (c = true → b env Q E) ∧ (c = false → Q r)) E) tl400
def aOrV (a b : AE) : AE := fun env Q E => (fun (_ : Unit) => a env (fun r => onTru r fun c => (c = true → Q r) ∧ (c = false → b env Q E)) E) tl400
def aNotV (a : AE) : AE := fun env Q E => (fun (_ : Unit) => a env (fun r => match r with | .v (.bool c) => Q (.v (.bool (!c))) | _ => False) E) tl400
theorem pea_one (ha : PEA At X W e a) : PEA At X W (.BoolOp op [e] pos) a := ⟨pe_one ha.run, ha.mono⟩
theorem pea_and {b2 : Expr} (ha : PEA At X W e a) (hb : PEA At X W (.BoolOp .And (b2 :: rest) pos) b) : PEA At X W (.BoolOp .And (e :: b2 :: rest) pos) (aAndV a b) := by
  refine ⟨pe_imp (pe_andT ha.run hb.run) fun σ H Q ⟨u, d, m, He, He0, H0, env, S, k⟩ => ⟨u, d, m, He, He0, H0, env, S, ha.mono env _ _ _ _ (fun c kx => ?_) (fun _ z => z) k⟩, fun env Q Q' E E' h hx k => ha.mono env _ _ E E' (fun c z => onTru_mono (fun c y => ⟨fun e => hb.mono env _ _ E E' h hx (y.1 e), fun e => h _ (y.2 e)⟩) z) hx k⟩
  intro v H1 H01 T1 r1
  obtain ⟨q, c, rfl, tq, z⟩ := onTru_get kx
  refine ⟨c, tru_of T1.sub r1 tq, iteB (fun ec => ?_) fun ec => z.2 ec _ _ _ T1 r1⟩
  exact ⟨u, d, m, He, He0, H01, env, S.go T1, hb.mono env _ _ _ _ (fun y ky => PK.go T1 ky) (fun _ z => PX.go T1 z) (z.1 ec)⟩
theorem pea_or {b2 : Expr} (ha : PEA At X W e a) (hb : PEA At X W (.BoolOp .Or (b2 :: rest) pos) b) : PEA At X W (.BoolOp .Or (e :: b2 :: rest) pos) (aOrV a b) := by
  refine ⟨pe_imp (pe_orT ha.run hb.run) fun σ H Q ⟨u, d, m, He, He0, H0, env, S, k⟩ => ⟨u, d, m, He, He0, H0, env, S, ha.mono env _ _ _ _ (fun c kx => ?_) (fun _ z => z) k⟩, fun env Q Q' E E' h hx k => ha.mono env _ _ E E' (fun c z => onTru_mono (fun c y => ⟨fun e => h _ (y.1 e), fun e => hb.mono env _ _ E E' h hx (y.2 e)⟩) z) hx k⟩
  intro v H1 H01 T1 r1
  obtain ⟨q, c, rfl, tq, z⟩ := onTru_get kx
  refine ⟨c, tru_of T1.sub r1 tq, iteB (fun ec => z.1 ec _ _ _ T1 r1) fun ec => ?_⟩
  exact ⟨u, d, m, He, He0, H01, env, S.go T1, hb.mono env _ _ _ _ (fun y ky => PK.go T1 ky) (fun _ z => PX.go T1 z) (z.2 ec)⟩
theorem pea_not (ha : PEA At X W e a) : PEA At X W (.UnaryOp .Not e pos) (aNotV a) := by
  refine ⟨pe_imp (pe_not ha.run) fun σ H Q ⟨u, d, m, He, He0, H0, env, S, k⟩ => ⟨u, d, m, He, He0, H0, env, S, ha.mono env _ _ _ _ (fun c kx => ?_) (fun _ z => z) k⟩, fun env Q Q' E E' h hx k => ha.mono env _ _ E E' (fun c z => ?_) hx k⟩
  · intro v H1 H01 T1 r1
    split at kx
    · cases r1
      exact ⟨_, rfl, kx _ _ _ T1 (DX.bl _)⟩
    · exact kx.elim
  · split at z
    · exact h _ z
    · exact z.elim
def aIf (t : AT) (a b : AE) : AE := fun env Q E => (fun (_ : Unit) => t env (fun c => (c = true → a env Q E) ∧ (c = false → b env Q E)) E) tl400
theorem pea_ifExp {c : Expr} (hc : PTA At X W c ta) (ha : PEA At X W e1 a) (hb : PEA At X W e2 b) : PEA At X W (.IfExp c e1 e2 pos) (aIf ta a b) := by
  refine ⟨pe_imp (pe_ifExp hc.run ha.run hb.run) fun σ H Q ⟨u, d, m, He, He0, H0, env, S, k⟩ => ⟨u, d, m, He, He0, H0, env, S, hc.mono env _ _ _ _ (fun c kx => ?_) (fun _ z => z) k⟩, fun env Q Q' E E' h hx k => hc.mono env _ _ E E' (fun c z => ⟨fun e => ha.mono env _ _ E E' h hx (z.1 e), fun e => hb.mono env _ _ E E' h hx (z.2 e)⟩) hx k⟩
  intro H1 H01 T1
  refine iteB (fun e1 => ?_) fun e1 => ?_
  · exact ⟨u, d, m, He, He0, H01, env, S.go T1, ha.mono env _ _ _ _ (fun y ky => PK.go T1 ky) (fun _ z => PX.go T1 z) (kx.1 e1)⟩
  · exact ⟨u, d, m, He, He0, H01, env, S.go T1, hb.mono env _ _ _ _ (fun y ky => PK.go T1 ky) (fun _ z => PX.go T1 z) (kx.2 e1)⟩
/-! ### chains -/
def aChain (f g : AF2) (a b c : AE) : AE := fun env Q E => (fun (_ : Unit) => a env (fun x => b env (fun y => f x y fun z => match z with
  | .v (.bool true) => c env (fun w => g y w Q) E
  | .v (.bool false) => Q (.v (.bool false))
  | _ => False) E) E) tl400
theorem mono_chain {f g : AF2} {r r' : R2} (o : Op2 At r f) (o' : Op2 At r' g) (ha : MonoG a) (hb : MonoG b) (hc : MonoG c) : MonoG (aChain f g a b c) := fun env Q Q' E E' h hx k =>
  ha env _ _ E E' (fun x kx => hb env _ _ E E' (fun y ky => o.mono _ _ _ _ (fun z kz => by
    split at kz
    · exact hc env _ _ E E' (fun w kw => o'.mono _ _ _ _ h kw) hx kz
    · exact h _ kz
    · exact kz.elim) ky) hx kx) hx k
theorem chain_go {op op' : CmpOp} {f g : AF2} {r r' : R2} (o : Op2 At r f) (o' : Op2 At r' g) (ha : PEA At X W e1 a) (hb : PEA At X W e2 b) (hc : PEA At X W e3 c) {σ : L2.St} {H : Hp} {Q : VK} (h : ∃ u d m He He0 H0 env, ST At u d m He He0 H H0 env σ ∧ aChain f g a b c env (PK At u d m H H0 Q) (PX At X.mg u d m H H0 σ W)) :
    tChain r r' (fun σ H Q => ∃ u d m He He0 H0 env, ST At u d m He He0 H H0 env σ ∧ a env (PK At u d m H H0 Q) (PX At X.mg u d m H H0 σ W)) (fun σ H Q => ∃ u d m He He0 H0 env, ST At u d m He He0 H H0 env σ ∧ b env (PK At u d m H H0 Q) (PX At X.mg u d m H H0 σ W))
      (fun σ H Q => ∃ u d m He He0 H0 env, ST At u d m He He0 H H0 env σ ∧ c env (PK At u d m H H0 Q) (PX At X.mg u d m H H0 σ W)) σ H Q := by
  obtain ⟨u, d, m, He, He0, H0, env, S, k⟩ := h
  refine ⟨u, d, m, He, He0, H0, env, S, ha.mono env _ _ _ _ (fun x kx => ?_) (fun _ z => z) k⟩
  intro v H1 H01 T1 r1
  refine ⟨u, d, m, He, He0, H01, env, S.go T1, hb.mono env _ _ _ _ (fun y ky => ?_) (fun _ z => PX.go T1 z) kx⟩
  intro w H2 H02 T2 r2
  refine o.ok u d m H2 H02 v w _ _ _ T2.at_ T2.sub (r1.off T2.off0) r2 (o.mono _ _ _ _ (fun z kz => ?_) ky)
  intro z' H3 H03 T3 r3
  split at kz
  · cases r3
    refine ⟨true, rfl, iteT ⟨u, d, m, He, He0, H03, env, ((S.go T1).go T2).go T3, hc.mono env _ _ _ _ (fun w' kw => ?_) (fun _ z => PX.go T3 (PX.go T2 (PX.go T1 z))) kz⟩⟩
    intro w2 H4 H04 T4 r4
    exact o'.ok u d m H4 H04 w w2 _ _ Q T4.at_ T4.sub ((r2.off T3.off0).off T4.off0) r4 (o'.mono _ _ _ _ (fun r z => PK.go T4 (PK.go T3 (PK.go T2 (PK.go T1 z)))) kw)
  · cases r3
    exact ⟨false, rfl, iteF (kz _ _ _ (T1.trans (T2.trans T3)) (DX.bl _))⟩
  · exact kz.elim
theorem pea_chain {op op' : CmpOp} {f g : AF2} {r r' : R2} (ho : OpR X (compareOp op) r) (ho' : OpR X (compareOp op') r') (o : Op2 At r f) (o' : Op2 At r' g) (ha : PEA At X W e1 a) (hb : PEA At X W e2 b) (hc : PEA At X W e3 c)
    (hm : lastMarks [op, op'] [e2, e3] = false := by rfl) : PEA At X W (.Compare e1 [op, op'] [e2, e3] pos) (aChain f g a b c) :=
  ⟨pe_imp (pe_chain ho ho' ha.run hb.run hc.run hm) fun σ H Q h => chain_go (op := op) (op' := op') o o' ha hb hc h, mono_chain o o' ha.mono hb.mono hc.mono⟩
theorem pta_chain {op op' : CmpOp} {f g : AF2} {r r' : R2} (ho : OpR X (compareOp op) r) (ho' : OpR X (compareOp op') r') (o : Op2 At r f) (o' : Op2 At r' g) (ha : PEA At X W e1 a) (hb : PEA At X W e2 b) (hc : PEA At X W e3 c)
    (hm : lastMarks [op, op'] [e2, e3] = false := by rfl) : PTA At X W (.Compare e1 [op, op'] [e2, e3] pos) (aTstB (aChain f g a b c)) := by
  refine ⟨pt_imp (pt_chain ho ho' ha.run hb.run hc.run hm) fun σ H Q ⟨u, d, m, He, He0, H0, env, S, k⟩ => chain_go (op := op) (op' := op') o o' ha hb hc ⟨u, d, m, He, He0, H0, env, S, mono_chain o o' ha.mono hb.mono hc.mono env _ _ _ _ (fun rr z => ?_) (fun _ z => z) k⟩, mono_tstB (mono_chain o o' ha.mono hb.mono hc.mono)⟩
  intro v H1 H01 T1 r1
  split at z
  · cases r1
    exact ⟨_, rfl, z _ _ T1⟩
  · exact z.elim
/-! ### built-ins by name -/
abbrev AFn := List AR → AK → Prop
structure CallA (At : UT) (r : List V → Hp → VK → Prop) (f : AFn) : Prop where
  ok : ∀ u d m H H0 xs rs Q, At H u d m → Off u d H0 H → RVs u d H0 xs rs → f rs (PK At u d m H H0 Q) → r xs H Q
  mono : ∀ rs Q Q', (∀ r, Q r → Q' r) → f rs Q → f rs Q'
def aCB (f : AFn) (a : AA) : AE := fun env Q E => (fun (_ : Unit) => a env (fun rs => f rs Q) E) tl400
theorem mono_cb {f : AFn} {r : List V → Hp → VK → Prop} (o : CallA At r f) (ha : MonoG aa) : MonoG (aCB f aa) := fun env Q Q' E E' h hx k => ha env _ _ E E' (fun x kx => o.mono _ _ _ h kx) hx k
theorem cb_go {f : AFn} {r : List V → Hp → VK → Prop} {es : List Expr} (o : CallA At r f) (ha : PAA At X W es aa) {σ : L2.St} {H : Hp} {Q : VK} (h : ∃ u d m He He0 H0 env, ST At u d m He He0 H H0 env σ ∧ aCB f aa env (PK At u d m H H0 Q) (PX At X.mg u d m H H0 σ W)) :
    tCB r (fun σ H Q => ∃ u d m He He0 H0 env, ST At u d m He He0 H H0 env σ ∧ aa env (PKs At u d m H H0 Q) (PX At X.mg u d m H H0 σ W)) σ H Q := by
  obtain ⟨u, d, m, He, He0, H0, env, S, k⟩ := h
  refine ⟨u, d, m, He, He0, H0, env, S, ha.mono env _ _ _ _ (fun x kx => ?_) (fun _ z => z) k⟩
  intro v H1 H01 T1 r1
  exact o.ok u d m H1 H01 v _ Q T1.at_ T1.sub r1 (o.mono _ _ _ (fun r z => PK.go T1 z) kx)
theorem pea_callB {id : String} {f : AFn} {r : List V → Hp → VK → Prop} {x : Str} {p : Pos} (hc : CallR X (.builtin id) r) (o : CallA At r f) (hg : Gl X x) (hm : X.mg x = none) (hv : bootBuiltins x = some (.builtin id)) (ha : PAA At X W (e :: es) aa) (hn : x ≠ "__name__" := by decide) (hdb : (x == ("__debug__" : Str)) = false := by decide)
    (he : starEach (e :: es) X.env = (false, eval e X.env) :: starEach es X.env := by rfl) (hpl : (backTo pos (starEach es X.env)).any (·.1) = false := by rfl) : PEA At X W (.Call (.Name x p) (e :: es) [] pos) (aCB f aa) :=
  ⟨pe_imp (pe_callB hc hg hm hv ha.run hn hdb he hpl) fun σ H Q h => cb_go o ha h, mono_cb o ha.mono⟩
theorem pea_callTy {T : String} {f : AFn} {r : List V → Hp → VK → Prop} {x : Str} {p : Pos} (hc : CallR X (.type T) r) (o : CallA At r f) (hg : Gl X x) (hm : X.mg x = none) (hv : bootBuiltins x = some (.type T)) (ha : PAA At X W (e :: es) aa) (hn : x ≠ "__name__" := by decide) (hdb : (x == ("__debug__" : Str)) = false := by decide)
    (he : starEach (e :: es) X.env = (false, eval e X.env) :: starEach es X.env := by rfl) (hpl : (backTo pos (starEach es X.env)).any (·.1) = false := by rfl) : PEA At X W (.Call (.Name x p) (e :: es) [] pos) (aCB f aa) :=
  ⟨pe_imp (pe_callTy hc hg hm hv ha.run hn hdb he hpl) fun σ H Q h => cb_go o ha h, mono_cb o ha.mono⟩
theorem pea_callFun {id : String} {f : AFn} {r : List V → Hp → VK → Prop} {x : Str} {p : Pos} (hc : CallR X (.builtin id) r) (o : CallA At r f) (hg : Gl X x) (hm : X.mg x = some (.builtin id)) (ha : PAA At X W (e :: es) aa) (hdb : (x == ("__debug__" : Str)) = false := by decide)
    (he : starEach (e :: es) X.env = (false, eval e X.env) :: starEach es X.env := by rfl) (hpl : (backTo pos (starEach es X.env)).any (·.1) = false := by rfl) : PEA At X W (.Call (.Name x p) (e :: es) [] pos) (aCB f aa) :=
  ⟨pe_imp (pe_callBfun hc hg hm ha.run hdb he hpl) fun σ H Q h => cb_go o ha h, mono_cb o ha.mono⟩
end
end AL

/-! the abstract layer: the built-ins -/
namespace AL
open PySem PySem.Spec PyProof.Rows L2 RW RZ PySem.RW U
section
variable {At : UT} [UOk At] {X : Cx} {W : WX} {e e1 e2 e3 : Expr} {es : List Expr} {a b c : AE} {aa bb : AA} {pos : Pos} {K : PySem.W.Frag}
theorem rvs1 {u d : Addr} {H : Hp} {xs : List V} {r : AR} (h : RVs u d H xs [r]) : ∃ v, xs = [v] ∧ RV u d H v r := by
  cases h with
  | cons a b => cases b; exact ⟨_, rfl, a⟩
theorem rvs2 {u d : Addr} {H : Hp} {xs : List V} {r r2 : AR} (h : RVs u d H xs [r, r2]) : ∃ v w, xs = [v, w] ∧ RV u d H v r ∧ RV u d H w r2 := by
  cases h with
  | cons a b =>
    cases b with
    | cons c d => cases d; exact ⟨_, _, rfl, a, c⟩
def onSeq (g : List PyData → AK → Prop) : AFn
  | [r], Q => match itemsA r with
    | some qs => g qs Q
    | none => False
  | _, _ => False
/-! len -/
def fLen : AFn
  | [.v (.list qs)], Q => Q (.v (.int qs.length))
  | [.v (.tuple qs)], Q => Q (.v (.int qs.length))
  | [.v (.str x)], Q => x.length ≤ 2000000 ∧ Q (.v (.int x.length))
  | _, _ => False
def rLen (K : PySem.W.Frag) : List V → Hp → VK → Prop := fun xs H Q => (∃ p ys, xs = [.ref p] ∧ (SqL K H p ys ∨ SqT K H p ys) ∧ Q (.int ys.length) H) ∨ (∃ z, xs = [.str z] ∧ z.length ≤ sizeLine ∧ Q (.int z.length) H)
theorem cl_len : CallR X (.builtin "len") (rLen X.K) := call_len_seq.or call_len_str
theorem o_len : CallA At (rLen K) fLen := by
  refine ⟨fun u d m H H0 xs rs Q hat sub r1 k => ?_, fun rs Q Q' h k => ?_⟩
  · unfold fLen at k
    try dsimp only at k
    split at k
    · obtain ⟨v, rfl, r⟩ := rvs1 r1
      obtain ⟨a, ys, rfl, a1, a2, a3, a4⟩ := rv_lst r
      refine .inl ⟨a, ys, rfl, .inl (SqL.of (sub _ _ a1 a2 a3)), ?_⟩
      rw [a4.length]
      exact pk_now sub hat k (DX.int _)
    · obtain ⟨v, rfl, r⟩ := rvs1 r1
      obtain ⟨a, ys, rfl, a1, a2, a3, a4⟩ := rv_tup r
      refine .inl ⟨a, ys, rfl, .inr (SqT.of (sub _ _ a1 a2 a3)), ?_⟩
      rw [a4.length]
      exact pk_now sub hat k (DX.int _)
    · obtain ⟨v, rfl, r⟩ := rvs1 r1
      rw [rv_str r]
      exact .inr ⟨_, rfl, Nat.le_of_lt (small6 k.1), pk_now sub hat k.2 (DX.int _)⟩
    · exact k.elim
  · unfold fLen at k ⊢
    try dsimp only at k ⊢
    split at k
    · exact h _ k
    · exact h _ k
    · exact ⟨k.1, h _ k.2⟩
    · exact k.elim
/-! tuple(x) -/
def fTuple : AFn := onSeq fun qs Q => Q (.v (.tuple qs))
theorem onSeq_mono {g : List PyData → AK → Prop} (hg : ∀ qs Q Q', (∀ r, Q r → Q' r) → g qs Q → g qs Q') : ∀ rs Q Q', (∀ r, Q r → Q' r) → onSeq g rs Q → onSeq g rs Q' := fun rs Q Q' h k => by
  unfold onSeq at k ⊢
  try dsimp only at k ⊢
  split at k
  · split at k
    · exact hg _ _ _ h k
    · exact k
  · exact k
theorem o_tuple : CallA At (fun xs H Q => ∃ p ys, xs = [.ref p] ∧ ((SqL K H p ys ∧ ∀ l, H l = none → Q (.ref l) (upd H l (.tup ys))) ∨ (SqT K H p ys ∧ Q (.ref p) H))) fTuple := by
  refine ⟨fun u d m H H0 xs rs Q hat sub r1 k => ?_, onSeq_mono fun _ _ _ h k => h _ k⟩
  unfold fTuple onSeq at k
  try dsimp only at k
  split at k
  · split at k
    · rename_i qs eq
      obtain ⟨v, rfl, r⟩ := rvs1 r1
      unfold itemsA at eq
      try dsimp only at eq
      split at eq
      · cases eq
        obtain ⟨a, ys, rfl, a1, a2, a3, a4⟩ := rv_lst r
        exact ⟨a, ys, rfl, .inl ⟨SqL.of (sub _ _ a1 a2 a3), fun l hl => pk_tup sub hat a4 k hl⟩⟩
      · cases eq
        obtain ⟨a, ys, rfl, a1, a2, a3, a4⟩ := rv_tup r
        exact ⟨a, ys, rfl, .inr ⟨SqT.of (sub _ _ a1 a2 a3), pk_now sub hat k (DX.tup a1 a2 a3 a4)⟩⟩
      · cases eq
    · exact k.elim
  · exact k.elim
/-! int, str, abs -/
def fInt : AFn
  | [.v (.int i)], Q => Q (.v (.int i))
  | [.v (.bool c)], Q => Q (.v (.int (if c then 1 else 0)))
  | _, _ => False
theorem o_int : CallA At (fun xs H Q => (∃ i, xs = [.int i] ∧ Q (.int i) H) ∨ ∃ k, xs = [.bl k] ∧ Q (.int (if k then 1 else 0)) H) fInt := by
  refine ⟨fun u d m H H0 xs rs Q hat sub r1 k => ?_, fun rs Q Q' h k => ?_⟩
  · unfold fInt at k
    try dsimp only at k
    split at k
    · obtain ⟨v, rfl, r⟩ := rvs1 r1
      rw [rv_int r]
      exact .inl ⟨_, rfl, pk_now sub hat k (DX.int _)⟩
    · obtain ⟨v, rfl, r⟩ := rvs1 r1
      rw [rv_bl r]
      exact .inr ⟨_, rfl, pk_now sub hat k (DX.int _)⟩
    · exact k.elim
  · unfold fInt at k ⊢
    try dsimp only at k ⊢
    split at k
    · exact h _ k
    · exact h _ k
    · exact k.elim
def fAbs : AFn
  | [.v (.int i)], Q => Q (.v (.int (if i < 0 then -i else i)))
  | _, _ => False
theorem o_abs : CallA At (fun xs H Q => ∃ i, xs = [.int i] ∧ Q (.int (if i < 0 then -i else i)) H) fAbs := by
  refine ⟨fun u d m H H0 xs rs Q hat sub r1 k => ?_, fun rs Q Q' h k => ?_⟩
  · unfold fAbs at k
    try dsimp only at k
    split at k
    · obtain ⟨v, rfl, r⟩ := rvs1 r1
      rw [rv_int r]
      exact ⟨_, rfl, pk_now sub hat k (DX.int _)⟩
    · exact k.elim
  · unfold fAbs at k ⊢
    try dsimp only at k ⊢
    split at k
    · exact h _ k
    · exact k.elim
def fGcd : AFn
  | [.v (.int i), .v (.int j)], Q => Q (.v (.int ((Nat.gcd i.natAbs j.natAbs : Nat) : Int)))
  | _, _ => False
theorem o_gcd : CallA At rGcd fGcd := by
  refine ⟨fun u d m H H0 xs rs Q hat sub r1 k => ?_, fun rs Q Q' h k => ?_⟩
  · unfold fGcd at k
    try dsimp only at k
    split at k
    · obtain ⟨v, w, rfl, r, r2⟩ := rvs2 r1
      rw [rv_int r, rv_int r2]
      exact ⟨_, _, rfl, pk_now sub hat k (DX.int _)⟩
    · exact k.elim
  · unfold fGcd at k ⊢
    try dsimp only at k ⊢
    split at k
    · exact h _ k
    · exact k.elim
/-! sum, all, any, min, max of a list -/
def intsD : List PyData → Option (List Int)
  | [] => some []
  | .int i :: r => (intsD r).map (i :: ·)
  | _ :: _ => none
def blsD : List PyData → Option (List Bool)
  | [] => some []
  | .bool i :: r => (blsD r).map (i :: ·)
  | _ :: _ => none
theorem intsD_map (ns : List Int) : intsD (ns.map .int) = some ns := by
  induction ns with
  | nil => rfl
  | cons n ns ih => simp [intsD, ih]
theorem blsD_map (ns : List Bool) : blsD (ns.map .bool) = some ns := by
  induction ns with
  | nil => rfl
  | cons n ns ih => simp [blsD, ih]
theorem intsD_of : ∀ {qs : List PyData} {ns : List Int}, intsD qs = some ns → qs = ns.map .int
  | [], ns, h => by cases h; rfl
  | .int i :: r, ns, h => by
    simp only [intsD] at h
    cases e : intsD r with
    | none => rw [e] at h; cases h
    | some l => rw [e] at h; cases h; rw [intsD_of e]; rfl
  | .none :: _, _, h => by cases h
  | .bool _ :: _, _, h => by cases h
  | .str _ :: _, _, h => by cases h
  | .list _ :: _, _, h => by cases h
  | .tuple _ :: _, _, h => by cases h
  | .dict _ :: _, _, h => by cases h
theorem blsD_of : ∀ {qs : List PyData} {ns : List Bool}, blsD qs = some ns → qs = ns.map .bool
  | [], ns, h => by cases h; rfl
  | .bool i :: r, ns, h => by
    simp only [blsD] at h
    cases e : blsD r with
    | none => rw [e] at h; cases h
    | some l => rw [e] at h; cases h; rw [blsD_of e]; rfl
  | .none :: _, _, h => by cases h
  | .int _ :: _, _, h => by cases h
  | .str _ :: _, _, h => by cases h
  | .list _ :: _, _, h => by cases h
  | .tuple _ :: _, _, h => by cases h
  | .dict _ :: _, _, h => by cases h
theorem dxs_bls {u d : Addr} {H : Hp} : ∀ {ns : List Bool} {vs : List V}, DXs u d H vs (ns.map PyData.bool) → vs = ns.map V.bl
  | [], _, h => by cases h; rfl
  | n :: ns, _, h => by
    cases h with
    | cons h1 h2 => cases h1; rw [dxs_bls h2]; rfl
def onInts (g : List Int → AK → Prop) : AFn
  | [.v (.list qs)], Q => match intsD qs with
    | some ns => g ns Q
    | none => False
  | _, _ => False
def onBls (g : List Bool → AK → Prop) : AFn
  | [.v (.list qs)], Q => match blsD qs with
    | some ns => g ns Q
    | none => False
  | _, _ => False
theorem onInts_mono {g : List Int → AK → Prop} (hg : ∀ qs Q Q', (∀ r, Q r → Q' r) → g qs Q → g qs Q') : ∀ rs Q Q', (∀ r, Q r → Q' r) → onInts g rs Q → onInts g rs Q' := fun rs Q Q' h k => by
  unfold onInts at k ⊢
  try dsimp only at k ⊢
  split at k
  · split at k
    · exact hg _ _ _ h k
    · exact k
  · exact k
theorem onBls_mono {g : List Bool → AK → Prop} (hg : ∀ qs Q Q', (∀ r, Q r → Q' r) → g qs Q → g qs Q') : ∀ rs Q Q', (∀ r, Q r → Q' r) → onBls g rs Q → onBls g rs Q' := fun rs Q Q' h k => by
  unfold onBls at k ⊢
  try dsimp only at k ⊢
  split at k
  · split at k
    · exact hg _ _ _ h k
    · exact k
  · exact k
theorem onInts_go {g : List Int → AK → Prop} {u d : Addr} {H H0 : Hp} {xs : List V} {rs : List AR} {Q : AK} (sub : Off u d H0 H) (r1 : RVs u d H0 xs rs) (k : onInts g rs Q) : ∃ a ns, xs = [.ref a] ∧ SqL K H a (ns.map V.int) ∧ g ns Q := by
  unfold onInts at k
  try dsimp only at k
  split at k
  · split at k
    · rename_i ns e
      obtain ⟨v, rfl, r⟩ := rvs1 r1
      obtain ⟨a, ys, rfl, a1, a2, a3, a4⟩ := rv_lst r
      rw [intsD_of e] at a4
      have := dxs_int a4
      subst this
      exact ⟨a, ns, rfl, SqL.of (sub _ _ a1 a2 a3), k⟩
    · exact k.elim
  · exact k.elim
theorem onBls_go {g : List Bool → AK → Prop} {u d : Addr} {H H0 : Hp} {xs : List V} {rs : List AR} {Q : AK} (sub : Off u d H0 H) (r1 : RVs u d H0 xs rs) (k : onBls g rs Q) : ∃ a ns, xs = [.ref a] ∧ SqL K H a (ns.map V.bl) ∧ g ns Q := by
  unfold onBls at k
  try dsimp only at k
  split at k
  · split at k
    · rename_i ns e
      obtain ⟨v, rfl, r⟩ := rvs1 r1
      obtain ⟨a, ys, rfl, a1, a2, a3, a4⟩ := rv_lst r
      rw [blsD_of e] at a4
      have := dxs_bls a4
      subst this
      exact ⟨a, ns, rfl, SqL.of (sub _ _ a1 a2 a3), k⟩
    · exact k.elim
  · exact k.elim
def fSum : AFn := onInts fun ns Q => Q (.v (.int ns.sum))
theorem o_sum : CallA At (rSum K) fSum := ⟨fun u d m H H0 xs rs Q hat sub r1 k => let ⟨a, ns, h1, h2, h3⟩ := onInts_go sub r1 k; ⟨a, ns, h1, h2, pk_now sub hat h3 (DX.int _)⟩, onInts_mono fun _ _ _ h k => h _ k⟩
def fAll : AFn := onBls fun ns Q => Q (.v (.bool (ns.all id)))
theorem o_all : CallA At (rAll K) fAll := ⟨fun u d m H H0 xs rs Q hat sub r1 k => let ⟨a, ns, h1, h2, h3⟩ := onBls_go sub r1 k; ⟨a, ns, h1, h2, pk_now sub hat h3 (DX.bl _)⟩, onBls_mono fun _ _ _ h k => h _ k⟩
def fAny : AFn := onBls fun ns Q => Q (.v (.bool (ns.any id)))
theorem o_any : CallA At (rAny K) fAny := ⟨fun u d m H H0 xs rs Q hat sub r1 k => let ⟨a, ns, h1, h2, h3⟩ := onBls_go sub r1 k; ⟨a, ns, h1, h2, pk_now sub hat h3 (DX.bl _)⟩, onBls_mono fun _ _ _ h k => h _ k⟩
def maxG (ns : List Int) (Q : AK) : Prop := 0 < ns.length ∧ ∀ m, m ∈ ns → (∀ y, y ∈ ns → y ≤ m) → Q (.v (.int m))
def minG (ns : List Int) (Q : AK) : Prop := 0 < ns.length ∧ ∀ m, m ∈ ns → (∀ y, y ∈ ns → m ≤ y) → Q (.v (.int m))
/-- of one list, or of two ints -/
def fMax : AFn
  | [.v (.int i), .v (.int j)], Q => Q (.v (.int (if j > i then j else i)))
  | rs, Q => onInts maxG rs Q
def fMin : AFn
  | [.v (.int i), .v (.int j)], Q => Q (.v (.int (if j < i then j else i)))
  | rs, Q => onInts minG rs Q
theorem cl_max (hc : X.calm = true) : CallR X (.builtin "max") (fun xs H Q => rMax X.K xs H Q ∨ ∃ i j, xs = [.int i, .int j] ∧ Q (.int (if j > i then j else i)) H) := (cr_max hc).or (call_max2 hc)
theorem cl_min (hc : X.calm = true) : CallR X (.builtin "min") (fun xs H Q => rMin X.K xs H Q ∨ ∃ i j, xs = [.int i, .int j] ∧ Q (.int (if j < i then j else i)) H) := (cr_min hc).or (call_min2 hc)
theorem o_max : CallA At (fun xs H Q => rMax K xs H Q ∨ ∃ i j, xs = [.int i, .int j] ∧ Q (.int (if j > i then j else i)) H) fMax := by
  refine ⟨fun u d m H H0 xs rs Q hat sub r1 k => ?_, fun rs Q Q' h k => ?_⟩
  · unfold fMax at k
    try dsimp only at k
    split at k
    · obtain ⟨v, w, rfl, r, r2⟩ := rvs2 r1
      rw [rv_int r, rv_int r2]
      exact .inr ⟨_, _, rfl, pk_now sub hat k (DX.int _)⟩
    · obtain ⟨a, ns, h1, h2, h3, h4⟩ := onInts_go sub r1 k
      exact .inl ⟨a, ns, h1, h2, h3, fun m hm hy => pk_now sub hat (h4 m hm hy) (DX.int _)⟩
  · unfold fMax at k ⊢
    try dsimp only at k ⊢
    split at k
    · exact h _ k
    · exact onInts_mono (fun _ _ _ h k => ⟨k.1, fun m a b => h _ (k.2 m a b)⟩) _ _ _ h k
theorem o_min : CallA At (fun xs H Q => rMin K xs H Q ∨ ∃ i j, xs = [.int i, .int j] ∧ Q (.int (if j < i then j else i)) H) fMin := by
  refine ⟨fun u d m H H0 xs rs Q hat sub r1 k => ?_, fun rs Q Q' h k => ?_⟩
  · unfold fMin at k
    try dsimp only at k
    split at k
    · obtain ⟨v, w, rfl, r, r2⟩ := rvs2 r1
      rw [rv_int r, rv_int r2]
      exact .inr ⟨_, _, rfl, pk_now sub hat k (DX.int _)⟩
    · obtain ⟨a, ns, h1, h2, h3, h4⟩ := onInts_go sub r1 k
      exact .inl ⟨a, ns, h1, h2, h3, fun m hm hy => pk_now sub hat (h4 m hm hy) (DX.int _)⟩
  · unfold fMin at k ⊢
    try dsimp only at k ⊢
    split at k
    · exact h _ k
    · exact onInts_mono (fun _ _ _ h k => ⟨k.1, fun m a b => h _ (k.2 m a b)⟩) _ _ _ h k
/-! max(x, default=y) -/
def aMaxD (a b : AE) : AE := fun env Q E => a env (fun x => b env (fun y => onInts (fun ns Q => (ns = [] → Q y) ∧ ∀ m, m ∈ ns → (∀ y, y ∈ ns → y ≤ m) → Q (.v (.int m))) [x] Q) E) E
theorem maxD_mono {y : AR} : ∀ (qs : List Int) (Q Q' : AK), (∀ r, Q r → Q' r) → ((qs = [] → Q y) ∧ ∀ m, m ∈ qs → (∀ y, y ∈ qs → y ≤ m) → Q (.v (.int m))) → ((qs = [] → Q' y) ∧ ∀ m, m ∈ qs → (∀ y, y ∈ qs → y ≤ m) → Q' (.v (.int m))) :=
  fun _ _ _ h k => ⟨fun e => h _ (k.1 e), fun m a b => h _ (k.2 m a b)⟩
theorem pea_maxD {p kpos : Pos} (hc : X.calm = true) (hg : Gl X "max") (hm : X.mg "max" = none) (ha : PEA At X W e a) (hb : PEA At X W e2 b)
    (hs : starEach [e] X.env = (false, eval e X.env) :: starEach [] X.env := by rfl)
    (he : backTo pos (starEach [e] X.env) = (false, eval e X.env) :: backTo pos (starEach [] X.env) := by rfl) (hpl : (backTo pos (starEach [e] X.env)).any (·.1) = false := by rfl)
    (hall : (backToKw pos (keywordEach [⟨some "default", e2, kpos⟩] X.env)).all (·.1.isSome) = true := by rfl) (hnone : (backToKw pos (keywordEach [⟨some "default", e2, kpos⟩] X.env)).any (·.1.isNone) = false := by rfl) (hks : (backToKw pos (keywordEach [⟨some "default", e2, kpos⟩] X.env)).filterMap (·.1) = [Str.ofString "default"] := by rfl) :
    PEA At X W (.Call (.Name "max" p) [e] [⟨some "default", e2, kpos⟩] pos) (aMaxD a b) := by
  refine ⟨pe_imp (pe_callBK (call_maxD hc) hg hm (by decide +kernel) (pa_cons ha.run pa_nil hs) (pk_cons hb.run pk_nil) (by decide) (by decide) he hpl hall hnone hks) fun σ H Q ⟨u, d, m, He, He0, H0, env, S, k⟩ => ⟨u, d, m, He, He0, H0, env, S, ha.mono env _ _ _ _ (fun x kx => ?_) (fun _ z => z) k⟩,
    fun env Q Q' E E' h hx k => ha.mono env _ _ E E' (fun x kx => hb.mono env _ _ E E' (fun y ky => onInts_mono maxD_mono _ _ _ h ky) hx kx) hx k⟩
  intro v H1 H01 T1 r1
  refine ⟨u, d, m, He, He0, H01, env, S.go T1, hb.mono env _ _ _ _ (fun y ky => ?_) (fun _ z => PX.go T1 z) kx⟩
  intro w H2 H02 T2 r2
  have ky2 := onInts_mono maxD_mono _ _ _ (fun r z => PK.go T2 (PK.go T1 z)) ky
  obtain ⟨a, ns, h1, h2, h3, h4⟩ := onInts_go (K := X.K) T2.sub (.cons (r1.off T2.off0) .nil) ky2
  cases h1
  exact ⟨a, ns, w, rfl, rfl, h2, fun e => pk_now T2.sub T2.at_ (h3 e) r2, fun m hm hy => pk_now T2.sub T2.at_ (h4 m hm hy) (DX.int _)⟩
/-! repr -/
/-- what may be shown -/
def ShOk (q : PyData) : Prop := Sm q ∨ ((∃ qs, q = .list qs ∨ q = .tuple qs) ∧ noDict q = true ∧ wide q = true ∧ q.shown.length ≤ sizeLine ∧ q.depth ≤ 50)
def fRepr : AFn
  | [.v q], Q => ShOk q ∧ Q (.v (.str q.shown))
  | _, _ => False
theorem cl_repr (hG : X.A.guards = some []) (hr : X.A.units + 64 < cLine) (S : StatAt X.base) : CallR X (.builtin "repr") (fun xs H Q => rReprX xs H Q ∨ (rRepr X.K xs H Q ∨ rReprT X.K xs H Q)) := (call_reprX hG hr).or ((call_reprW hG hr S).or (call_reprT hG hr S))
theorem o_repr : CallA At (fun xs H Q => rReprX xs H Q ∨ (rRepr K xs H Q ∨ rReprT K xs H Q)) fRepr := by
  refine ⟨fun u d m H H0 xs rs Q hat sub r1 k => ?_, fun rs Q Q' h k => ?_⟩
  · unfold fRepr at k
    try dsimp only at k
    split at k
    · obtain ⟨v, rfl, r⟩ := rvs1 r1
      obtain ⟨h | ⟨⟨qs, h⟩, h2, h3, h4, h5⟩, k⟩ := k
      · exact .inl ⟨v, u, d, _, rfl, DX.off sub r, h.sh, h.len, Nat.le_trans h.dp (by decide), pk_now sub hat k (DX.str _)⟩
      · rcases h with rfl | rfl
        · obtain ⟨a, ys, rfl, a1, a2, a3, a4⟩ := rv_lst r
          exact .inr (.inl ⟨a, qs, rfl, dp_of sub r h2, h3, h4, h5, pk_now sub hat k (DX.str _)⟩)
        · obtain ⟨a, ys, rfl, a1, a2, a3, a4⟩ := rv_tup r
          exact .inr (.inr ⟨a, qs, rfl, dp_of sub r h2, h3, h4, h5, pk_now sub hat k (DX.str _)⟩)
    · exact k.elim
  · unfold fRepr at k ⊢
    try dsimp only at k ⊢
    split at k
    · exact ⟨k.1, h _ k.2⟩
    · exact k.elim
/-! isinstance -/
def aIsi (g : PyData → Bool) (a : AE) : AE := fun env Q E => a env (fun r => match r with | .v q => Q (.v (.bool (g q))) | .urn => False) E
theorem pea_isi {T : String} {x : Str} {g : PyData → Bool} {p p2 : Pos} (hc : CallR X (.builtin "isinstance") (rIsX T g)) (hg : Gl X "isinstance") (hm : X.mg "isinstance" = none) (ha : PEA At X W e a) (hT : PE X (.Name x p2) (tC (.ty T)))
    (hs1 : starEach [e, .Name x p2] X.env = (false, eval e X.env) :: starEach [.Name x p2] X.env := by rfl) (hs2 : starEach [.Name x p2] X.env = (false, eval (.Name x p2) X.env) :: starEach [] X.env := by rfl) (hpl : (backTo pos (starEach [.Name x p2] X.env)).any (·.1) = false := by rfl) :
    PEA At X W (.Call (.Name "isinstance" p) [e, .Name x p2] [] pos) (aIsi g a) := by
  refine ⟨pe_imp (pe_callB hc hg hm (by decide +kernel) (pa_cons ha.run (pa_cons hT pa_nil hs2) hs1) (by decide) (by decide) hs1 hpl) fun σ H Q ⟨u, d, m, He, He0, H0, env, S, k⟩ => ⟨u, d, m, He, He0, H0, env, S, ha.mono env _ _ _ _ (fun x kx => ?_) (fun _ z => z) k⟩, fun env Q Q' E E' h hx k => ha.mono env _ _ E E' (fun x kx => ?_) hx k⟩
  · intro v H1 H01 T1 r1
    split at kx
    · exact ⟨v, u, d, _, rfl, DX.off T1.sub r1, pk_now T1.sub T1.at_ (PK.go T1 kx) (DX.bl _)⟩
    · exact kx.elim
  · split at kx
    · exact h _ kx
    · exact kx
/-! indices, slices -/
def fIx : AF2
  | .v (.list qs), .v (.int i), Q => ∃ q, atI qs i = some q ∧ Q (.v q)
  | .v (.tuple qs), .v (.int i), Q => ∃ q, atI qs i = some q ∧ Q (.v q)
  | _, _, _ => False
theorem dxs_atI {u d : Addr} {H : Hp} {vs : List V} {qs : List PyData} {i : Int} {q : PyData} (h : DXs u d H vs qs) (e : atI qs i = some q) : ∃ v, atI vs i = some v ∧ DX u d H v q := by
  unfold atI at e ⊢
  try dsimp only at e ⊢
  rw [h.length]
  cases e2 : ixN qs.length i with
  | none => rw [e2] at e; cases e
  | some j =>
    rw [e2] at e
    exact DXs.atq h e
theorem o_ix : Op2 At (fun x y H Q => rIxL K x y H Q ∨ rIxT K x y H Q) fIx := by
  refine ⟨fun u d m H H0 x y rx ry Q hat sub r1 r2 k => ?_, fun rx ry Q Q' h k => ?_⟩
  · unfold fIx at k
    try dsimp only at k
    split at k
    · obtain ⟨q, e, k⟩ := k
      obtain ⟨a, ys, rfl, a1, a2, a3, a4⟩ := rv_lst r1
      rw [rv_int r2]
      obtain ⟨v, h1, h2⟩ := dxs_atI a4 e
      exact .inl ⟨a, ys, _, v, rfl, rfl, SqL.of (sub _ _ a1 a2 a3), h1, pk_now sub hat k h2⟩
    · obtain ⟨q, e, k⟩ := k
      obtain ⟨a, ys, rfl, a1, a2, a3, a4⟩ := rv_tup r1
      rw [rv_int r2]
      obtain ⟨v, h1, h2⟩ := dxs_atI a4 e
      exact .inr ⟨a, ys, _, v, rfl, rfl, SqT.of (sub _ _ a1 a2 a3), h1, pk_now sub hat k h2⟩
    · exact k.elim
  · unfold fIx at k ⊢
    try dsimp only at k ⊢
    split at k
    · exact let ⟨q, e, k⟩ := k; ⟨q, e, h _ k⟩
    · exact let ⟨q, e, k⟩ := k; ⟨q, e, h _ k⟩
    · exact k.elim
theorem pea_ix (ha : PEA At X W e1 a) (hb : PEA At X W e2 b) (hs : PlainIx e2) : PEA At X W (.Subscript e1 e2 pos) (aBin fIx a b) :=
  ⟨pe_imp (pe_ix (r := fun x y H Q => rIxL X.K x y H Q ∨ rIxT X.K x y H Q) (ix_list.or ix_tup) ha.run hb.run hs) fun σ H Q h => two_go o_ix ha hb h, mono_bin (At := At) (r := fun x y H Q => rIxL X.K x y H Q ∨ rIxT X.K x y H Q) o_ix ha.mono hb.mono⟩
def cutD (qs : List PyData) (lo hi : Option Int) : List PyData := (qs.drop (HT.sIx qs.length 0 lo)).take (HT.sIx qs.length qs.length hi - HT.sIx qs.length 0 lo)
theorem dxs_cut {u d : Addr} {H : Hp} {vs : List V} {qs : List PyData} (h : DXs u d H vs qs) (lo hi : Option Int) : DXs u d H (cutV vs lo hi) (cutD qs lo hi) := by
  unfold cutV cutD
  try dsimp only
  rw [h.length]
  exact (h.drop _).take _
abbrev AO := AEnv → (Option Int → Prop) → AXK → Prop
structure POA (At : UT) (X : Cx) (W : WX) (e : Option Expr) (a : AO) : Prop where
  run : PO X e fun σ H Q => ∃ u d m He He0 H0 env, ST At u d m He He0 H H0 env σ ∧ a env (fun o => ∀ H' H0', Stp At u d m H H0 H' H0' → Q o H') (PX At X.mg u d m H H0 σ W)
  mono : MonoG a
theorem po_imp {X : Cx} {e : Option Expr} {t S : TO} (h : PO X e t) (hs : ∀ σ H Q, S σ H Q → t σ H Q) : PO X e S := ⟨fun pins s σ H Q I q => h.run pins s σ H Q I (hs σ H Q q)⟩
def aNoPart : AO := fun _ Q _ => (fun (_ : Unit) => Q none) tl400
def aPart (a : AE) : AO := fun env Q E => (fun (_ : Unit) => a env (fun r => match r with | .v (.int i) => Q (some i) | _ => False) E) tl400
theorem poa_none : POA At X W none aNoPart := ⟨po_imp po_none fun σ H Q ⟨u, d, m, He, He0, H0, env, S, k⟩ => k _ _ (.refl S.sub S.at_), fun _ _ _ _ _ h _ k => h _ k⟩
theorem poa_some (ha : PEA At X W e a) : POA At X W (some e) (aPart a) := by
  refine ⟨po_imp (po_some ha.run) fun σ H Q ⟨u, d, m, He, He0, H0, env, S, k⟩ => ⟨u, d, m, He, He0, H0, env, S, ha.mono env _ _ _ _ (fun x kx => ?_) (fun _ z => z) k⟩, fun env Q Q' E E' h hx k => ha.mono env _ _ E E' (fun x kx => ?_) hx k⟩
  · intro v H1 H01 T1 r1
    split at kx
    · cases r1
      exact ⟨_, rfl, kx _ _ T1⟩
    · exact kx.elim
  · split at kx
    · exact h _ kx
    · exact kx
/-- x[lo:hi] -/
def aSl (a : AE) (l h : AO) : AE := fun env Q E => (fun (_ : Unit) => a env (fun r => l env (fun lo => h env (fun hi => match r with
  | .v (.tuple qs) => Q (.v (.tuple (cutD qs lo hi)))
  | .v (.list qs) => Q (.v (.list (cutD qs lo hi)))
  | _ => False) E) E) E) tl400
theorem pea_sl {lo hi : Option Expr} {l h : AO} {p2 : Pos} (ha : PEA At X W e a) (hl : POA At X W lo l) (hh : POA At X W hi h) : PEA At X W (.Subscript e (.Slice lo hi none p2) pos) (aSl a l h) := by
  refine ⟨pe_imp (pe_slice (sl_tupA.or sl_list) ha.run hl.run hh.run) fun σ H Q ⟨u, d, m, He, He0, H0, env, S, k⟩ => ⟨u, d, m, He, He0, H0, env, S, ha.mono env _ _ _ _ (fun x kx => ?_) (fun _ z => z) k⟩,
    fun env Q Q' E E' hh' hx k => ha.mono env _ _ E E' (fun x kx => hl.mono env _ _ E E' (fun y ky => hh.mono env _ _ E E' (fun z kz => ?_) hx ky) hx kx) hx k⟩
  · intro v H1 H01 T1 r1
    refine ⟨u, d, m, He, He0, H01, env, S.go T1, hl.mono env _ _ _ _ (fun y ky => ?_) (fun _ z => PX.go T1 z) kx⟩
    intro H2 H02 T2
    refine ⟨u, d, m, He, He0, H02, env, (S.go T1).go T2, hh.mono env _ _ _ _ (fun z kz => ?_) (fun _ z => PX.go T2 (PX.go T1 z)) ky⟩
    intro H3 H03 T3
    have T := T1.trans (T2.trans T3)
    split at kz
    · rename_i qs
      obtain ⟨p, xs, rfl, a1, a2, a3, a4⟩ := rv_tup ((r1.off T2.off0).off T3.off0)
      refine .inl ⟨p, xs, rfl, SqT.of (T3.sub _ _ a1 a2 a3), fun w => ?_, fun _ q hq => pk_tup T3.sub T3.at_ (dxs_cut a4 y z) (PK.go T kz) hq⟩
      have e : cutD qs y z = qs := by
        rw [a4.length] at w
        unfold cutD
        try dsimp only
        rw [w.1, w.2]
        simp
      rw [e] at kz
      exact kz _ _ _ T (DX.tup a1 a2 a3 a4)
    · rename_i qs
      obtain ⟨p, xs, rfl, a1, a2, a3, a4⟩ := rv_lst ((r1.off T2.off0).off T3.off0)
      exact .inr ⟨p, xs, rfl, SqL.of (T3.sub _ _ a1 a2 a3), fun q hq => pk_lst T3.sub T3.at_ (dxs_cut a4 y z) (PK.go T kz) hq⟩
    · exact kz.elim
  · split at kz
    · exact hh' _ kz
    · exact hh' _ kz
    · exact kz
/-! xs[::-1] -/
def aRev (a : AE) : AE := fun env Q E => (fun (_ : Unit) => a env (fun r => match r with
  | .v (.list qs) => Q (.v (.list qs.reverse))
  | _ => False) E) tl400
theorem dxs_rev {u d : Addr} {H : Hp} : ∀ {vs : List V} {qs : List PyData}, DXs u d H vs qs → DXs u d H vs.reverse qs.reverse
  | _, _, .nil => .nil
  | _, _, .cons h t => by
    rw [List.reverse_cons, List.reverse_cons]
    exact (dxs_rev t).append (.cons h .nil)
theorem pea_rev {k0 : Nat} {p1 p2 p3 : Pos} (ha : PEA At X W e a) : PEA At X W (.Subscript e (.Slice none none (some (.UnaryOp .USub (.Constant (.int 1) k0 p1) p2)) p3) pos) (aRev a) := by
  refine ⟨pe_imp (pe_revL ha.run) fun σ H Q ⟨u, d, m, He, He0, H0, env, S, k⟩ => ⟨u, d, m, He, He0, H0, env, S, ha.mono env _ _ _ _ (fun x kx => ?_) (fun _ z => z) k⟩, fun env Q Q' E E' h hx k => ha.mono env _ _ E E' (fun x kx => ?_) hx k⟩
  · intro v H1 H01 T1 r1
    split at kx
    · obtain ⟨p, xs, rfl, a1, a2, a3, a4⟩ := rv_lst r1
      exact ⟨p, xs, rfl, SqL.of (T1.sub _ _ a1 a2 a3), fun q hq => pk_lst T1.sub T1.at_ (dxs_rev a4) (PK.go T1 kx) hq⟩
    · exact kx.elim
  · split at kx
    · exact h _ kx
    · exact kx
/-! list(x) -/
def fList : AFn := onSeq fun qs Q => Q (.v (.list qs))
theorem o_list : CallA At (fun xs H Q => ∃ p ys, xs = [.ref p] ∧ (SqL K H p ys ∨ SqT K H p ys) ∧ ∀ l, H l = none → Q (.ref l) (upd H l (.lst ys))) fList := by
  refine ⟨fun u d m H H0 xs rs Q hat sub r1 k => ?_, onSeq_mono fun _ _ _ h k => h _ k⟩
  unfold fList onSeq at k
  try dsimp only at k
  split at k
  · split at k
    · rename_i qs eq
      obtain ⟨v, rfl, r⟩ := rvs1 r1
      obtain ⟨p, xs, rfl, h1, h2⟩ := items_of (K := K) sub eq r
      exact ⟨p, xs, rfl, h1.symm, fun l hl => pk_lst sub hat h2 k hl⟩
    · exact k.elim
  · exact k.elim
/-! sorted(xs), whole numbers -/
def fSorted : AFn := onInts fun ns Q => ∀ ms : List Int, ms.Perm ns → ms.Pairwise (· ≤ ·) → Q (.v (.list (ms.map .int)))
end
end AL

/-! the abstract layer: targets, what is walked, comprehensions -/
namespace AL
open PySem PySem.Spec PyProof.Rows L2 RW RZ PySem.RW U
abbrev AG := PyData → AEnv → (AEnv → Prop) → Prop
abbrev AGs := List PyData → AEnv → (AEnv → Prop) → Prop
def agName (i : Nat) : AG := fun q env K => (fun (_ : Unit) => K (env.set i (some (.dat q)))) tl400
def agNil : AGs := fun qs env K => (fun (_ : Unit) => qs = [] ∧ K env) tl400
def agCons (g : AG) (gs : AGs) : AGs := fun qs env K => (fun (_ : Unit) => match qs with
  | q :: r => g q env fun env' => gs r env' K
  | [] => False) tl400
def agTup (n : Nat) (gs : AGs) : AG := fun q env K => (fun (_ : Unit) => match itemsA (.v q) with
  | some qs => qs.length = n ∧ gs qs env K
  | none => False) tl400
def MonoT {α : Type} (g : α → AEnv → (AEnv → Prop) → Prop) : Prop := ∀ q env (K K' : AEnv → Prop), (∀ e, K e → K' e) → g q env K → g q env K'
def LenT {α : Type} (g : α → AEnv → (AEnv → Prop) → Prop) : Prop := ∀ q env (K : AEnv → Prop), g q env K → g q env fun e => e.length = env.length ∧ K e
structure PGA (At : UT) (X : Cx) (tg : Expr) (vs : List Nat) (g : AG) : Prop where
  run : PG X tg fun v σ H Q => ∃ u d m He He0 H0 env q, ST At u d m He He0 H H0 env σ ∧ DX u d H0 v q ∧ g q env fun env' => ∀ σ', ST At u d m He He0 H H0 env' σ' → (∀ i : Nat, i ∉ vs → σ'[i]? = σ[i]?) → Q σ' H
  mono : MonoT g
  len : LenT g
structure PGsA (At : UT) (X : Cx) (ts : List Expr) (vs : List Nat) (g : AGs) : Prop where
  run : PGs X ts fun ws σ H Q => ∃ u d m He He0 H0 env qs, ST At u d m He He0 H H0 env σ ∧ DXs u d H0 ws qs ∧ g qs env fun env' => ∀ σ', ST At u d m He He0 H H0 env' σ' → (∀ i : Nat, i ∉ vs → σ'[i]? = σ[i]?) → Q σ' H
  mono : MonoT g
  len : LenT g
theorem pg_imp {X : Cx} {e : Expr} {t S : TG} (h : PG X e t) (hs : ∀ v σ H Q, S v σ H Q → t v σ H Q) : PG X e S := ⟨fun pins s σ H v u Q I r q => h.run pins s σ H v u Q I r (hs v σ H Q q)⟩
theorem pgs_imp {X : Cx} {e : List Expr} {t S : TGs} (h : PGs X e t) (hs : ∀ v σ H Q, S v σ H Q → t v σ H Q) : PGs X e S := ⟨fun pins s σ H v u Q I r q => h.run pins s σ H v u Q I r (hs v σ H Q q)⟩
theorem pg_or {X : Cx} {e : Expr} {t S : TG} (h : PG X e t) (h' : PG X e S) : PG X e (fun v σ H Q => t v σ H Q ∨ S v σ H Q) := ⟨fun pins s σ H v u Q I r q => q.elim (h.run pins s σ H v u Q I r) (h'.run pins s σ H v u Q I r)⟩
section
variable {At : UT} [UOk At] {X : Cx} {W : WX} {e e1 e2 : Expr} {es : List Expr} {a b : AE} {aa : AA} {pos : Pos}
theorem ST.set {u d m : Addr} {He He0 H H0 : Hp} {env : AEnv} {σ : L2.St} (S : ST At u d m He He0 H H0 env σ) {v : V} {q : PyData} (dx : DX u d H0 v q) (i : Nat) : ST At u d m He He0 H H0 (env.set i (some (.dat q))) (σ.set i (some v)) := by
  refine ⟨S.stp, by rw [List.length_set, List.length_set]; exact S.len, fun j a h => ?_, fun j k qs rs b h1 h2 h3 h4 => ?_⟩
  · by_cases e : i = j
    · subst e
      by_cases hl : i < env.length
      · rw [List.getElem?_set_self hl] at h
        cases h
        rw [List.getElem?_set_self (by rw [← S.len]; exact hl)]
        exact ⟨v, rfl, dx⟩
      · rw [List.getElem?_eq_none (by simp; omega)] at h
        cases h
    · rw [List.getElem?_set_ne e] at h
      rw [List.getElem?_set_ne e]
      exact S.slot j a h
  · have g : ∀ {j : Nat} {qs : List PyData}, (env.set i (some (.dat q)))[j]? = some (some (.own qs)) → i ≠ j := fun {j qs} h z => by
      subst z
      by_cases hl : i < env.length
      · rw [List.getElem?_set_self hl] at h; cases h
      · rw [List.getElem?_eq_none (by simp; omega)] at h; cases h
    have n1 := g h1
    have n2 := g h2
    rw [List.getElem?_set_ne n1] at h1 h3
    rw [List.getElem?_set_ne n2] at h2 h4
    exact S.dis j k qs rs b h1 h2 h3 h4
theorem pga_name {i : Nat} {x : Str} (hN : X.N.Nodup) (hi : X.N[i]? = some x) (hx : Loc X.env.scope x) (hf : X.fn x = true ∨ X.env.scope.names.lookup x = some .local := by first | exact .inl rfl | exact .inr rfl | assumption) : PGA At X (.Name x pos) [i] (agName i) := by
  refine ⟨pg_imp (pg_name hN hi hx hf) fun v σ H Q ⟨u, d, m, He, He0, H0, env, q, S, dx, k⟩ => k _ (S.set dx i) fun j hj => ?_, fun q env K K' h k => h _ k, fun q env K k => ⟨List.length_set, k⟩⟩
  exact List.getElem?_set_ne (fun z => hj (by simp [z]))
theorem pgsa_nil : PGsA At X [] [] agNil := by
  refine ⟨pgs_imp pgs_nil fun ws σ H Q ⟨u, d, m, He, He0, H0, env, qs, S, dx, h1, k⟩ => ?_, fun q env K K' h k => ⟨k.1, h _ k.2⟩, fun q env K k => ⟨k.1, rfl, k.2⟩⟩
  subst h1
  cases dx
  exact ⟨rfl, k σ S fun _ _ => rfl⟩
theorem pgsa_cons {vs ws : List Nat} {g : AG} {gs : AGs} (h1 : PGA At X e vs g) (h2 : PGsA At X es ws gs) (hs : (assignEach (e :: es) X.env).map (·.2) = assign e X.env :: (assignEach es X.env).map (·.2) := by rfl) : PGsA At X (e :: es) (vs ++ ws) (agCons g gs) := by
  refine ⟨pgs_imp (pgs_cons h1.run h2.run hs) fun xs σ H Q ⟨u, d, m, He, He0, H0, env, qs, S, dx, k⟩ => ?_, fun q env K K' h k => ?_, fun q env K k => ?_⟩
  · unfold agCons at k
    try dsimp only at k
    split at k
    · rename_i q r
      cases dx with
      | cons d1 d2 =>
        refine ⟨_, _, rfl, u, d, m, He, He0, H0, env, q, S, d1, h1.mono _ _ _ _ (fun env' k' => ?_) k⟩
        intro σ' S' fr
        refine ⟨u, d, m, He, He0, H0, env', r, S', d2, h2.mono _ _ _ _ (fun env2 k2 => ?_) k'⟩
        intro σ2 S2 fr2
        refine k2 σ2 S2 fun i hi => ?_
        rw [fr2 i (fun z => hi (List.mem_append_right _ z)), fr i (fun z => hi (List.mem_append_left _ z))]
    · exact k.elim
  · unfold agCons at k ⊢
    try dsimp only at k ⊢
    split at k
    · exact h1.mono _ _ _ _ (fun env' k' => h2.mono _ _ _ _ h k') k
    · exact k
  · unfold agCons at k ⊢
    try dsimp only at k ⊢
    split at k
    · refine h1.mono _ _ _ _ (fun env' k' => h2.mono _ _ _ _ (fun e z => ⟨z.1.trans k'.1, z.2⟩) (h2.len _ _ _ k'.2)) (h1.len _ _ _ k)
    · exact k
theorem pga_tup {k0 : Nat} {vs : List Nat} {gs : AGs} {n : Nat} (hc : X.calm = true) (h : PGsA At X es vs gs) (hn : (assignEach es X.env).length = n := by rfl) (hst : (assignEach es X.env).findIdx? (·.1) = none := by rfl) : PGA At X (.Tuple es k0 pos) vs (agTup n gs) := by
  refine ⟨pg_imp (pg_or (pg_tup hc h.run hn hst) (pg_lst hc h.run hn hst)) fun v σ H Q ⟨u, d, m, He, He0, H0, env, q, S, dx, k⟩ => ?_, fun q env K K' hh k => ?_, fun q env K k => ?_⟩
  · unfold agTup at k
    try dsimp only at k
    split at k
    · rename_i qs eq
      unfold itemsA at eq
      try dsimp only at eq
      split at eq
      · rename_i qs' e2
        cases eq
        obtain ⟨a, xs, rfl, a1, a2, a3, a4⟩ := rv_lst (show RV u d H0 v (.v (.list qs)) by rw [← e2]; exact dx)
        exact .inr ⟨a, xs, rfl, SqL.of (S.sub _ _ a1 a2 a3), by rw [a4.length]; exact k.1, u, d, m, He, He0, H0, env, _, S, a4, k.2⟩
      · rename_i qs' e2
        cases eq
        obtain ⟨a, xs, rfl, a1, a2, a3, a4⟩ := rv_tup (show RV u d H0 v (.v (.tuple qs)) by rw [← e2]; exact dx)
        exact .inl ⟨a, xs, rfl, SqT.of (S.sub _ _ a1 a2 a3), by rw [a4.length]; exact k.1, u, d, m, He, He0, H0, env, _, S, a4, k.2⟩
      · cases eq
    · exact k.elim
  · unfold agTup at k ⊢
    try dsimp only at k ⊢
    split at k
    · exact ⟨k.1, h.mono _ _ _ _ hh k.2⟩
    · exact k
  · unfold agTup at k ⊢
    try dsimp only at k ⊢
    split at k
    · exact ⟨k.1, h.len _ _ _ k.2⟩
    · exact k
/-! ### what is walked -/
def ItOk (At : UT) (u d m : Addr) (H01 : Hp) (J : It) (items : List PyData) : Prop :=
  (∀ i H H0 q, Off u d H01 H0 → Off u d H0 H → At H u d m → items[i]? = some q → J.go i H ∧ ∀ x H', J.yld i H x H' → ∃ H0', Stp At u d m H H0 H' H0' ∧ DX u d H0' x q) ∧
  ∀ H H0, Off u d H01 H0 → Off u d H0 H → J.stop items.length H
structure PIA (At : UT) (X : Cx) (W : WX) (tg iter : Expr) (a : AL_) : Prop where
  run : PI X tg iter fun σ H R => ∃ u d m He He0 H0 env, ST At u d m He He0 H H0 env σ ∧ a env (fun items => ∀ J H1 H01, Stp At u d m H H0 H1 H01 → ItOk At u d m H01 J items → R J H1) (PX At X.mg u d m H H0 σ W)
  mono : MonoG a
theorem pi_imp {X : Cx} {tg e : Expr} {t S : TI} (h : PI X tg e t) (hs : ∀ σ H Q, S σ H Q → t σ H Q) : PI X tg e S := ⟨fun pins s σ H Q I q => h.run pins s σ H Q I (hs σ H Q q)⟩
theorem itOk_list {u d m : Addr} {H01 : Hp} {a : Addr} {xs : List V} {qs : List PyData} {K : PySem.W.Frag} (a1 : a ≠ u) (a2 : a ≠ d) (a3 : H01 a = some (.lst xs)) (a4 : DXs u d H01 xs qs) : ItOk At u d m H01 (Itl K a) qs := by
  refine ⟨fun i H H0 q o1 o2 hat e => ?_, fun H H0 o1 o2 => ?_⟩
  · obtain ⟨v, h1, h2⟩ := DXs.atq a4 e
    have hs : SqL K H a xs := SqL.of (o2 _ _ a1 a2 (o1 _ _ a1 a2 a3))
    exact ⟨⟨xs, v, hs, h1⟩, fun x H' y => ⟨H0, by rw [y.1]; exact .refl o2 hat, by
      have := y.2 xs hs
      rw [h1] at this
      cases this
      exact h2.off o1⟩⟩
  · have hs : SqL K H a xs := SqL.of (o2 _ _ a1 a2 (o1 _ _ a1 a2 a3))
    exact ⟨xs, hs, by rw [a4.length]; exact Nat.le_refl _⟩
theorem itOk_tup {u d m : Addr} {H01 : Hp} {a : Addr} {xs : List V} {qs : List PyData} {K : PySem.W.Frag} (a1 : a ≠ u) (a2 : a ≠ d) (a3 : H01 a = some (.tup xs)) (a4 : DXs u d H01 xs qs) : ItOk At u d m H01 (Itt K a) qs := by
  refine ⟨fun i H H0 q o1 o2 hat e => ?_, fun H H0 o1 o2 => ?_⟩
  · obtain ⟨v, h1, h2⟩ := DXs.atq a4 e
    have hs : SqT K H a xs := SqT.of (o2 _ _ a1 a2 (o1 _ _ a1 a2 a3))
    exact ⟨⟨xs, v, hs, h1⟩, fun x H' y => ⟨H0, by rw [y.1]; exact .refl o2 hat, by
      have := y.2 xs hs
      rw [h1] at this
      cases this
      exact h2.off o1⟩⟩
  · have hs : SqT K H a xs := SqT.of (o2 _ _ a1 a2 (o1 _ _ a1 a2 a3))
    exact ⟨xs, hs, by rw [a4.length]; exact Nat.le_refl _⟩
theorem pi_seq {tg l : Expr} {tl : TE} (hl : PE X l tl) : PI X tg l (fun σ H R => tl σ H fun x H1 => (∃ a, x = .ref a ∧ (∃ xs, SqL X.K H1 a xs) ∧ R (Itl X.K a) H1) ∨ ∃ a, x = .ref a ∧ (∃ xs, SqT X.K H1 a xs) ∧ R (Itt X.K a) H1) := by
  refine ⟨fun pins s σ H R I h => ?_⟩
  refine thn (hl.run pins s σ H _ I h) fun v s1 ⟨x, H1, I1, r1, q1⟩ => ?_
  rcases q1 with ⟨a, e, ⟨xs, hq⟩, q⟩ | ⟨a, e, ⟨xs, hq⟩, q⟩
  · subst e
    cases r1
    obtain ⟨its, rv, p, hz⟩ := I1.list hq
    refine wpAny_pyIter_list p.isList ?_
    refine ⟨s1.heap.objs.size, [s1.heap.objs.size], _, _, H1, rfl, I1.kept (t' := s1.toks) fun b o e => Heap.get?_push_of_some _ e, turn_list a _, ⟨_, Heap.get?_push_size _ rfl, rfl, rfl⟩, fun b hb => ?_, q⟩
    have e : b = s1.heap.objs.size := by simpa using hb
    subst e
    exact I1.fpOk (Nat.le_refl _) (I1.hok.fresh (Nat.le_refl _))
  · subst e
    cases r1
    obtain ⟨its, rv, p, hz⟩ := I1.tuple hq
    refine wpAny_pyIter_tuple (show s1.heap.IsTuple a its.toArray from p) ?_
    refine ⟨s1.heap.objs.size, [s1.heap.objs.size], _, _, H1, rfl, I1.kept (t' := s1.toks) fun b o e => Heap.get?_push_of_some _ e, turn_tuple a _, ⟨_, Heap.get?_push_size _ rfl, rfl, rfl⟩, fun b hb => ?_, q⟩
    have e : b = s1.heap.objs.size := by simpa using hb
    subst e
    exact I1.fpOk (Nat.le_refl _) (I1.hok.fresh (Nat.le_refl _))
def aSeq (a : AE) : AL_ := fun env Q E => (fun (_ : Unit) => a env (fun r => match itemsA r with | some qs => Q qs | none => False) E) tl400
theorem pia_seq {tg : Expr} (ha : PEA At X W e a) : PIA At X W tg e (aSeq a) := by
  refine ⟨pi_imp (pi_seq ha.run) fun σ H R ⟨u, d, m, He, He0, H0, env, S, k⟩ => ⟨u, d, m, He, He0, H0, env, S, ha.mono env _ _ _ _ (fun x kx => ?_) (fun _ z => z) k⟩, fun env Q Q' E E' h hx k => ha.mono env _ _ E E' (fun x kx => ?_) hx k⟩
  · intro v H1 H01 T1 r1
    split at kx
    · rename_i qs eq
      unfold itemsA at eq
      try dsimp only at eq
      split at eq
      · cases eq
        obtain ⟨p, xs, rfl, a1, a2, a3, a4⟩ := rv_lst r1
        exact .inl ⟨p, rfl, ⟨xs, SqL.of (T1.sub _ _ a1 a2 a3)⟩, kx _ _ _ T1 (itOk_list a1 a2 a3 a4)⟩
      · cases eq
        obtain ⟨p, xs, rfl, a1, a2, a3, a4⟩ := rv_tup r1
        exact .inr ⟨p, rfl, ⟨xs, SqT.of (T1.sub _ _ a1 a2 a3)⟩, kx _ _ _ T1 (itOk_tup a1 a2 a3 a4)⟩
      · cases eq
    · exact kx.elim
  · split at kx
    · exact h _ kx
    · exact kx
/-- lo, lo + 1, .. -/
def rangeD (lo : Int) (n : Nat) : List PyData := (List.range n).map fun (k : Nat) => .int (lo + k)
theorem itOk_range {u d m : Addr} {H01 : Hp} {lo : Int} {n : Nat} : ItOk At u d m H01 (Itr lo n) (rangeD lo n) := by
  refine ⟨fun i H H0 q o1 o2 hat e => ?_, fun H H0 o1 o2 => ?_⟩
  · unfold rangeD at e
    try dsimp only at e
    rw [List.getElem?_map] at e
    cases e2 : (List.range n)[i]? with
    | none => rw [e2] at e; cases e
    | some k =>
      rw [e2] at e
      cases e
      obtain ⟨h1, h2⟩ := List.getElem?_eq_some_iff.mp e2
      rw [List.getElem_range] at h2
      subst h2
      have hi : i < n := by simpa using h1
      exact ⟨hi, fun x H' y => ⟨H0, by rw [y.1]; exact .refl o2 hat, by rw [y.2]; exact .int _⟩⟩
  · show n ≤ _
    unfold rangeD
    try dsimp only
    simp
def RgB (i : Int) : Prop := -(2 ^ 62) ≤ i ∧ i < 2 ^ 62
def aRng1 (a : AA) : AL_ := fun env Q E => (fun (_ : Unit) => a env (fun rs => match rs with | [.v (.int j)] => RgB j ∧ Q (rangeD 0 j.toNat) | _ => False) E) tl400
def aRng2 (a : AA) : AL_ := fun env Q E => (fun (_ : Unit) => a env (fun rs => match rs with | [.v (.int i), .v (.int j)] => RgB i ∧ RgB j ∧ Q (rangeD i (j - i).toNat) | _ => False) E) tl400
theorem pia_range1 {tg : Expr} {p : Pos} (hg : Gl X "range") (hm : X.mg "range" = none) (ha : PAA At X W [e] aa) (hs : starEach [e] X.env = [(false, eval e X.env)] := by rfl) : PIA At X W tg (.Call (.Name "range" p) [e] [] pos) (aRng1 aa) := by
  refine ⟨pi_imp (pi_range1 hg hm ha.run hs) fun σ H R ⟨u, d, m, He, He0, H0, env, S, k⟩ => ⟨u, d, m, He, He0, H0, env, S, ha.mono env _ _ _ _ (fun x kx => ?_) (fun _ z => z) k⟩, fun env Q Q' E E' h hx k => ha.mono env _ _ E E' (fun x kx => ?_) hx k⟩
  · intro v H1 H01 T1 r1
    split at kx
    · obtain ⟨v, rfl, r⟩ := rvs1 r1
      rw [rv_int r]
      exact ⟨_, rfl, kx.1.1, kx.1.2, kx.2 _ _ _ T1 itOk_range⟩
    · exact kx.elim
  · split at kx
    · exact ⟨kx.1, h _ kx.2⟩
    · exact kx
theorem pia_range2 {tg : Expr} {p : Pos} (hg : Gl X "range") (hm : X.mg "range" = none) (ha : PAA At X W [e, e2] aa) (hs : starEach [e, e2] X.env = [(false, eval e X.env), (false, eval e2 X.env)] := by rfl) (hs2 : starEach [e2] X.env = [(false, eval e2 X.env)] := by rfl) :
    PIA At X W tg (.Call (.Name "range" p) [e, e2] [] pos) (aRng2 aa) := by
  refine ⟨pi_imp (pi_range2 hg hm ha.run hs hs2) fun σ H R ⟨u, d, m, He, He0, H0, env, S, k⟩ => ⟨u, d, m, He, He0, H0, env, S, ha.mono env _ _ _ _ (fun x kx => ?_) (fun _ z => z) k⟩, fun env Q Q' E E' h hx k => ha.mono env _ _ E E' (fun x kx => ?_) hx k⟩
  · intro v H1 H01 T1 r1
    split at kx
    · obtain ⟨v, w, rfl, r, r2⟩ := rvs2 r1
      rw [rv_int r, rv_int r2]
      exact ⟨_, _, rfl, ⟨kx.1.1, kx.1.2, kx.2.1.1, kx.2.1.2⟩, kx.2.2 _ _ _ T1 itOk_range⟩
    · exact kx.elim
  · split at kx
    · exact ⟨kx.1, kx.2.1, h _ kx.2.2⟩
    · exact kx
/-- pairs -/
def zipD (qs rs : List PyData) : List PyData := List.zipWith (fun a b => .tuple [a, b]) qs rs
theorem itOk_pair {u d m : Addr} {H01 : Hp} {J : It} {n : Nat} {G : Hp → Prop} {f g : Nat → Option V} {qs : List PyData} (w : Walk J n G (YPair f g)) (hG : ∀ H H0, Off u d H01 H0 → Off u d H0 H → G H) (hn : qs.length = n)
    (hq : ∀ i q, qs[i]? = some q → ∃ x y q1 q2, f i = some x ∧ g i = some y ∧ q = .tuple [q1, q2] ∧ DX u d H01 x q1 ∧ DX u d H01 y q2) : ItOk At u d m H01 J qs := by
  refine ⟨fun i H H0 q o1 o2 hat e => ?_, fun H H0 o1 o2 => by rw [hn]; exact w.stops H (hG H H0 o1 o2)⟩
  have hi : i < n := by rw [← hn]; exact (List.getElem?_eq_some_iff.mp e).1
  have g0 := hG H H0 o1 o2
  refine ⟨w.goes i H hi g0, fun x H' y => ?_⟩
  obtain ⟨T, v, z, rfl, hT, rfl, h1, h2⟩ := w.yields i H x H' hi g0 y
  obtain ⟨v', z', q1, q2, k1, k2, rfl, d1, d2⟩ := hq i q e
  rw [h1] at k1
  rw [h2] at k2
  cases k1
  cases k2
  have T2 : Stp At u d m H H0 (upd H T (.tup [v, z])) (upd H0 T (.tup [v, z])) := .fresh o2 hat hT
  obtain ⟨n1, n2, n3⟩ := UOk.nfree hat hT
  exact ⟨_, T2, .tup n1 n2 upd_same (.cons ((d1.off o1).off T2.off0) (.cons ((d2.off o1).off T2.off0) .nil))⟩
theorem zipD_at {u d : Addr} {H : Hp} {xs ys : List V} {qs rs : List PyData} (h1 : DXs u d H xs qs) (h2 : DXs u d H ys rs) : ∀ (i : Nat) (q : PyData), (zipD qs rs)[i]? = some q → ∃ x y q1 q2, xs[i]? = some x ∧ ys[i]? = some y ∧ q = .tuple [q1, q2] ∧ DX u d H x q1 ∧ DX u d H y q2 := fun i q e => by
  unfold zipD at e
  try dsimp only at e
  rw [List.getElem?_zipWith] at e
  cases e1 : qs[i]? with
  | none => rw [e1] at e; cases e
  | some q1 =>
    cases e2 : rs[i]? with
    | none => rw [e1, e2] at e; cases e
    | some q2 =>
      rw [e1, e2] at e
      cases e
      obtain ⟨v, k1, k2⟩ := DXs.atq h1 e1
      obtain ⟨w, k3, k4⟩ := DXs.atq h2 e2
      exact ⟨v, w, q1, q2, k1, k3, rfl, k2, k4⟩
def aZip (a : AA) : AL_ := fun env Q E => (fun (_ : Unit) => a env (fun rs => match rs with
  | [.v (.list qs), .v (.list rs)] => Q (zipD qs rs)
  | [.v (.tuple qs), .v (.tuple rs)] => Q (zipD qs rs)
  | _ => False) E) tl400
theorem pia_zip {p tpos : Pos} {elts : List Expr} {kk : Nat} (hg : Gl X "zip") (hm : X.mg "zip" = none) (ha : PAA At X W [e, e2] aa) (hs : starEach [e, e2] X.env = (false, eval e X.env) :: starEach [e2] X.env := by rfl) (hpl : (backTo pos (starEach [e2] X.env)).any (·.1) = false := by rfl) :
    PIA At X W (.Tuple elts kk tpos) (.Call (.Name "zip" p) [e, e2] [] pos) (aZip aa) := by
  refine ⟨pi_imp (pi_zipA hg hm ha.run hs hpl) fun σ H R ⟨u, d, m, He, He0, H0, env, S, k⟩ => ⟨u, d, m, He, He0, H0, env, S, ha.mono env _ _ _ _ (fun x kx => ?_) (fun _ z => z) k⟩, fun env Q Q' E E' h hx k => ha.mono env _ _ E E' (fun x kx => ?_) hx k⟩
  · intro v H1 H01 T1 r1
    split at kx
    · rename_i qs rs
      obtain ⟨v, w, rfl, r, r2⟩ := rvs2 r1
      obtain ⟨a, xs, rfl, a1, a2, a3, a4⟩ := rv_lst r
      obtain ⟨b, ys, rfl, b1, b2, b3, b4⟩ := rv_lst r2
      refine ⟨a, b, xs, ys, rfl, .inl ⟨SqL.of (T1.sub _ _ a1 a2 a3), SqL.of (T1.sub _ _ b1 b2 b3), kx _ _ _ T1 (itOk_pair (walk_zip rfl) (fun H H0 o1 o2 => ⟨SqL.of (o2 _ _ a1 a2 (o1 _ _ a1 a2 a3)), SqL.of (o2 _ _ b1 b2 (o1 _ _ b1 b2 b3))⟩) ?_ (zipD_at a4 b4))⟩⟩
      unfold zipD
      try dsimp only
      rw [List.length_zipWith, a4.length, b4.length]
    · rename_i qs rs
      obtain ⟨v, w, rfl, r, r2⟩ := rvs2 r1
      obtain ⟨a, xs, rfl, a1, a2, a3, a4⟩ := rv_tup r
      obtain ⟨b, ys, rfl, b1, b2, b3, b4⟩ := rv_tup r2
      refine ⟨a, b, xs, ys, rfl, .inr ⟨SqT.of (T1.sub _ _ a1 a2 a3), SqT.of (T1.sub _ _ b1 b2 b3), kx _ _ _ T1 (itOk_pair (walk_zipT rfl) (fun H H0 o1 o2 => ⟨SqT.of (o2 _ _ a1 a2 (o1 _ _ a1 a2 a3)), SqT.of (o2 _ _ b1 b2 (o1 _ _ b1 b2 b3))⟩) ?_ (zipD_at a4 b4))⟩⟩
      unfold zipD
      try dsimp only
      rw [List.length_zipWith, a4.length, b4.length]
    · exact kx.elim
  · split at kx
    · exact h _ kx
    · exact h _ kx
    · exact kx
def enumD (k : Nat) : List PyData → List PyData
  | [] => []
  | q :: r => .tuple [.int k, q] :: enumD (k + 1) r
theorem enumD_len : ∀ (k : Nat) (qs : List PyData), (enumD k qs).length = qs.length
  | _, [] => rfl
  | k, q :: r => by simp [enumD, enumD_len (k + 1) r]
theorem enumD_at : ∀ (k : Nat) (qs : List PyData) (i : Nat) (q : PyData), (enumD k qs)[i]? = some q → ∃ q2, qs[i]? = some q2 ∧ q = .tuple [.int ((k + i : Nat) : Int), q2]
  | _, [], i, q, e => by simp [enumD] at e
  | k, q0 :: r, 0, q, e => by
    simp only [enumD, List.getElem?_cons_zero, Option.some.injEq] at e
    exact ⟨q0, by simp, by rw [← e]; simp⟩
  | k, q0 :: r, i + 1, q, e => by
    simp only [enumD, List.getElem?_cons_succ] at e
    obtain ⟨q2, h1, h2⟩ := enumD_at (k + 1) r i q e
    exact ⟨q2, by simpa using h1, by rw [h2]; congr 4; omega⟩
def aEnumT (a : AA) : AL_ := fun env Q E => (fun (_ : Unit) => a env (fun rs => match rs with | [.v (.tuple qs)] => Q (enumD 0 qs) | _ => False) E) tl400
def aEnumL (a : AA) : AL_ := fun env Q E => (fun (_ : Unit) => a env (fun rs => match rs with | [.v (.list qs)] => Q (enumD 0 qs) | _ => False) E) tl400
theorem pia_enumT {p tpos : Pos} {elts : List Expr} {kk : Nat} (hg : Gl X "enumerate") (hm : X.mg "enumerate" = none) (ha : PAA At X W [e] aa) (hs : starEach [e] X.env = [(false, eval e X.env)] := by rfl) :
    PIA At X W (.Tuple elts kk tpos) (.Call (.Name "enumerate" p) [e] [] pos) (aEnumT aa) := by
  refine ⟨pi_imp (pi_enumT hg hm ha.run hs) fun σ H R ⟨u, d, m, He, He0, H0, env, S, k⟩ => ⟨u, d, m, He, He0, H0, env, S, ha.mono env _ _ _ _ (fun x kx => ?_) (fun _ z => z) k⟩, fun env Q Q' E E' h hx k => ha.mono env _ _ E E' (fun x kx => ?_) hx k⟩
  · intro v H1 H01 T1 r1
    split at kx
    · rename_i qs
      obtain ⟨v, rfl, r⟩ := rvs1 r1
      obtain ⟨a, xs, rfl, a1, a2, a3, a4⟩ := rv_tup r
      refine ⟨a, xs, rfl, SqT.of (T1.sub _ _ a1 a2 a3), kx _ _ _ T1 (itOk_pair (f := fun i => some (.int (i : Nat))) (g := fun i => xs[i]?) (walk_enumT.mono (fun H h => h) fun i H x H' hi hg y => ?_) (fun H H0 o1 o2 => SqT.of (o2 _ _ a1 a2 (o1 _ _ a1 a2 a3))) (by rw [enumD_len, a4.length]) fun i q e => ?_)⟩
      · obtain ⟨T, z, h1, h2, h3, h4⟩ := y
        exact ⟨T, _, z, h1, h2, h3, rfl, h4⟩
      · obtain ⟨q2, h1, h2⟩ := enumD_at 0 qs i q e
        obtain ⟨v, k1, k2⟩ := DXs.atq a4 h1
        exact ⟨_, v, _, q2, rfl, k1, by rw [h2]; simp, .int _, k2⟩
    · exact kx.elim
  · split at kx
    · exact h _ kx
    · exact kx
theorem pia_enumL {p tpos : Pos} {elts : List Expr} {kk : Nat} (hg : Gl X "enumerate") (hm : X.mg "enumerate" = none) (ha : PAA At X W [e] aa) (hs : starEach [e] X.env = [(false, eval e X.env)] := by rfl) :
    PIA At X W (.Tuple elts kk tpos) (.Call (.Name "enumerate" p) [e] [] pos) (aEnumL aa) := by
  refine ⟨pi_imp (pi_enum hg hm ha.run hs) fun σ H R ⟨u, d, m, He, He0, H0, env, S, k⟩ => ⟨u, d, m, He, He0, H0, env, S, ha.mono env _ _ _ _ (fun x kx => ?_) (fun _ z => z) k⟩, fun env Q Q' E E' h hx k => ha.mono env _ _ E E' (fun x kx => ?_) hx k⟩
  · intro v H1 H01 T1 r1
    split at kx
    · rename_i qs
      obtain ⟨v, rfl, r⟩ := rvs1 r1
      obtain ⟨a, xs, rfl, a1, a2, a3, a4⟩ := rv_lst r
      refine ⟨a, xs, rfl, SqL.of (T1.sub _ _ a1 a2 a3), kx _ _ _ T1 (itOk_pair walk_enum (fun H H0 o1 o2 => SqL.of (o2 _ _ a1 a2 (o1 _ _ a1 a2 a3))) (by rw [enumD_len, a4.length]) fun i q e => ?_)⟩
      obtain ⟨q2, h1, h2⟩ := enumD_at 0 qs i q e
      obtain ⟨v, k1, k2⟩ := DXs.atq a4 h1
      exact ⟨_, v, _, q2, rfl, k1, by rw [h2]; simp, .int _, k2⟩
    · exact kx.elim
  · split at kx
    · exact h _ kx
    · exact kx
end
end AL

/-! the abstract layer: comprehensions -/
namespace AL
open PySem PySem.Spec PyProof.Rows L2 RW RZ PySem.RW U
def wipeA (env : AEnv) : List Nat → AEnv
  | [] => env
  | v :: vs => (wipeA env vs).set v none
theorem wipeA_length (env : AEnv) : ∀ vs : List Nat, (wipeA env vs).length = env.length
  | [] => rfl
  | v :: vs => by unfold wipeA; rw [List.length_set, wipeA_length env vs]
theorem wipeA_some {env : AEnv} {i : Nat} {x : AV} : ∀ {vs : List Nat}, (wipeA env vs)[i]? = some (some x) → env[i]? = some (some x) ∧ i ∉ vs
  | [], h => ⟨h, by simp⟩
  | v :: vs, h => by
    unfold wipeA at h
    try dsimp only at h
    by_cases hi : v = i
    · subst hi
      by_cases hv : v < (wipeA env vs).length
      · rw [List.getElem?_set_self hv] at h; cases h
      · rw [List.getElem?_eq_none (by simpa using hv)] at h; cases h
    · rw [List.getElem?_set_ne hi] at h
      obtain ⟨h1, h2⟩ := wipeA_some h
      exact ⟨h1, by simp only [List.mem_cons, not_or]; exact ⟨fun e => hi e.symm, h2⟩⟩
theorem wipe_in {σ : L2.St} {i : Nat} : ∀ {vs : List Nat}, i ∈ vs → (wipe σ vs)[i]? = if i < σ.length then some none else none
  | v :: vs, h => by
    unfold wipe
    try dsimp only
    by_cases e : v = i
    · subst e
      by_cases hl : v < σ.length
      · rw [List.getElem?_set_self (by rw [wipe_length]; exact hl), if_pos hl]
      · rw [List.getElem?_eq_none (by rw [List.length_set, wipe_length]; omega), if_neg hl]
    · rw [List.getElem?_set_ne e]
      exact wipe_in ((List.mem_cons.mp h).resolve_left fun z => e z.symm)
theorem wipe_eq {σ σ' : L2.St} {vs : List Nat} (hl : σ'.length = σ.length) (h : ∀ i : Nat, i ∉ vs → σ'[i]? = (wipe σ vs)[i]?) : wipe σ' vs = wipe σ vs := by
  apply List.ext_getElem?
  intro i
  by_cases hi : i ∈ vs
  · rw [wipe_in hi, wipe_in hi, hl]
  · rw [wipe_out hi, h i hi]
section
variable {At : UT} [UOk At] {X : Cx} {W : WX} {e e1 e2 : Expr} {es : List Expr} {a b : AE} {aa : AA} {pos : Pos}
theorem ST.wipe {u d m : Addr} {He He0 H H0 : Hp} {env : AEnv} {σ : L2.St} (S : ST At u d m He He0 H H0 env σ) (vs : List Nat) : ST At u d m He He0 H H0 (wipeA env vs) (wipe σ vs) := by
  refine ⟨S.stp, by rw [wipeA_length, wipe_length]; exact S.len, fun i a h => ?_, fun i j qs rs b h1 h2 h3 h4 => ?_⟩
  · obtain ⟨h1, h2⟩ := wipeA_some h
    rw [wipe_out h2]
    exact S.slot i a h1
  · obtain ⟨k1, k2⟩ := wipeA_some h1
    obtain ⟨k3, k4⟩ := wipeA_some h2
    rw [wipe_out k2] at h3
    rw [wipe_out k4] at h4
    exact S.dis i j qs rs b k1 k3 h3 h4
def onV (r : AR) (Q : PyData → Prop) : Prop := (fun (_ : Unit) => match r with
  | .v q => Q q
  | .urn => False) tl400
theorem onV_mono {r : AR} {Q Q' : PyData → Prop} (h : ∀ q, Q q → Q' q) (k : onV r Q) : onV r Q' := by
  unfold onV at k ⊢
  try dsimp only at k ⊢
  split at k
  · exact h _ k
  · exact k
def lcGo (g : AG) (t : AT) (te : AE) (env : AEnv) (Q : List PyData → Prop) : List PyData → List PyData → Prop
  | [], acc => Q acc
  | x :: xs, acc => g x env fun env1 => t env1 (fun b => (b = true → te env1 (fun r => onV r fun q => lcGo g t te env Q xs (acc ++ [q])) (fun _ => False)) ∧ (b = false → lcGo g t te env Q xs acc)) (fun _ => False)
theorem lcGo_mono {g : AG} {t : AT} {te : AE} (hg : MonoT g) (ht : MonoG t) (he : MonoG te) {env : AEnv} {Q Q' : List PyData → Prop} (h : ∀ r, Q r → Q' r) : ∀ xs acc, lcGo g t te env Q xs acc → lcGo g t te env Q' xs acc
  | [], acc, k => h _ k
  | x :: xs, acc, k => by
    unfold lcGo at k ⊢
    try dsimp only at k ⊢
    exact hg _ _ _ _ (fun env1 k1 => ht _ _ _ _ _ (fun b k2 => ⟨fun e => he _ _ _ _ _ (fun r k3 => onV_mono (fun q z => lcGo_mono hg ht he h xs _ z) k3) (fun _ z => z) (k2.1 e), fun e => lcGo_mono hg ht he h xs acc (k2.2 e)⟩) (fun _ z => z) k1) k
def aLc (vs : List Nat) (it : AL_) (g : AG) (t : AT) (te : AE) : AL_ := fun env Q E => (fun (_ : Unit) => it env (fun items => items.length ≤ 2000000 ∧ lcGo g t te (wipeA env vs) Q items []) E) tl400
structure PTsA (At : UT) (X : Cx) (W : WX) (es : List Expr) (a : AT) : Prop where
  run : PTs X es fun σ H Q => ∃ u d m He He0 H0 env, ST At u d m He He0 H H0 env σ ∧ a env (PB At u d m H H0 Q) (PX At X.mg u d m H H0 σ W)
  mono : MonoG a
theorem pts_imp {X : Cx} {e : List Expr} {t S : TT} (h : PTs X e t) (hs : ∀ σ H Q, S σ H Q → t σ H Q) : PTs X e S := ⟨fun pins s σ H Q I q => h.run pins s σ H Q I (hs σ H Q q)⟩
def aYes : AT := fun _ Q _ => (fun (_ : Unit) => Q true) tl400
theorem ptsa_nil : PTsA At X W [] aYes := ⟨pts_imp pts_nil fun σ H Q ⟨u, d, m, He, He0, H0, env, S, k⟩ => k _ _ (.refl S.sub S.at_), fun _ _ _ _ _ h _ k => h _ k⟩
theorem ptsa_one {t : AT} (h : PTA At X W e t) : PTsA At X W [e] t := ⟨pts_one h.run, h.mono⟩
abbrev RE (At : UT) (mg : Str → Option Value) (W : WX) (a : AE) : TE := fun σ H Q => ∃ u d m He He0 H0 env, ST At u d m He He0 H H0 env σ ∧ a env (PK At u d m H H0 Q) (PX At mg u d m H H0 σ W)
abbrev RT (At : UT) (mg : Str → Option Value) (W : WX) (a : AT) : TT := fun σ H Q => ∃ u d m He He0 H0 env, ST At u d m He He0 H H0 env σ ∧ a env (PB At u d m H H0 Q) (PX At mg u d m H H0 σ W)
abbrev W0 : WX := fun _ _ _ _ => False
theorem lst_put {u d m D : Addr} {H1 H01 H H0 : Hp} {ws : List V} (T : Stp At u d m H1 H01 H H0) (a1 : At H1 u d m) (hD : H1 D = none) (h0 : H0 D = none) : Stp At u d m H1 H01 (upd H D (.lst ws)) H0 := by
  obtain ⟨n1, n2, n3⟩ := UOk.nfree a1 hD
  refine ⟨fun b o b1 b2 e => ?_, T.off0, T.own, fun b o b1 b2 e => ?_, UOk.put T.at_ n1 n2 n3⟩
  · rw [upd_ne (ne_of_none e hD)]; exact T.off b o b1 b2 e
  · rw [upd_ne (ne_of_none e h0)]; exact T.sub b o b1 b2 e
abbrev RG (At : UT) (vs : List Nat) (g : AG) : TG := fun v σ H Q => ∃ u d m He He0 H0 env q, ST At u d m He He0 H H0 env σ ∧ DX u d H0 v q ∧ g q env fun env' => ∀ σ', ST At u d m He He0 H H0 env' σ' → (∀ i : Nat, i ∉ vs → σ'[i]? = σ[i]?) → Q σ' H
abbrev RI (At : UT) (mg : Str → Option Value) (W : WX) (a : AL_) : TI := fun σ H R => ∃ u d m He He0 H0 env, ST At u d m He He0 H H0 env σ ∧ a env (fun items => ∀ J H1 H01, Stp At u d m H H0 H1 H01 → ItOk At u d m H01 J items → R J H1) (PX At mg u d m H H0 σ W)
theorem lc_go {own : List (Str × Nat)} {it : AL_} {g : AG} {t : AT} {te : AE} (mi : MonoG it) (mg : MonoT g) (lg : LenT g) (mt : MonoG t) (me : MonoG te) {mgl : Str → Option Value} {σ : L2.St} {H : Hp} {Q : VK}
    (h : ∃ u d m He He0 H0 env, ST At u d m He He0 H H0 env σ ∧ aLc (own.map (·.2)) it g t te env (PL At u d m H H0 Q) (PX At mgl u d m H H0 σ W)) :
    tLc (RI At mgl W it) (RG At (own.map (·.2)) g) (RT At mgl W0 t) (RE At mgl W0 te) (own.map (·.2)) σ H Q := by
  obtain ⟨u, d, m, He, He0, H0, env, S, k⟩ := h
  refine ⟨u, d, m, He, He0, H0, env, S, mi env _ _ _ _ (fun items kx => ?_) (fun _ z => z) k⟩
  intro J H1 H01 T1 okJ D hD
  obtain ⟨hz, kx⟩ := kx
  obtain ⟨n1, n2, n3⟩ := UOk.nfree T1.at_ hD
  have hD0 : H01 D = none := by
    cases e : H01 D with
    | none => rfl
    | some x => have := T1.sub D x n1 n2 e; rw [hD] at this; cases this
  have hDH : H D = none := by
    cases e : H D with
    | none => rfl
    | some x => have := T1.off D x n1 n2 e; rw [hD] at this; cases this
  refine ⟨fun i mm Hc => mm = items.length - i ∧ i ≤ items.length ∧ ∃ H0c accV acc, Stp At u d m H1 H01 Hc H0c ∧ Hc D = some (.lst accV) ∧ H0c D = none ∧ DXs u d H0c accV acc ∧ acc.length ≤ i ∧ lcGo g t te (wipeA env (own.map (·.2))) (PL At u d m H H0 Q) (items.drop i) acc,
    ⟨items.length, by simp, Nat.zero_le _, H01, [], [], lst_put (.refl T1.sub T1.at_) T1.at_ hD hD0, upd_same, hD0, .nil, Nat.le_refl _, kx⟩, ?_⟩
  rintro i mm Hc ⟨rfl, hi2, H0c, accV, acc, Tc, hcD, h0D, dacc, hacc, kk⟩
  by_cases hlt : i < items.length
  · have ei : items[i]? = some items[i] := List.getElem?_eq_getElem hlt
    have ed : items.drop i = items[i] :: items.drop (i + 1) := by rw [List.drop_eq_getElem_cons hlt]
    rw [ed] at kk
    obtain ⟨go, yl⟩ := okJ.1 i Hc H0c items[i] Tc.off0 Tc.sub Tc.at_ ei
    refine .inr ⟨go, fun H' => items.length - (i + 1) = items.length - (i + 1) ∧ i + 1 ≤ items.length ∧ ∃ H0c accV acc, Stp At u d m H1 H01 H' H0c ∧ H' D = some (.lst accV) ∧ H0c D = none ∧ DXs u d H0c accV acc ∧ acc.length ≤ i + 1 ∧ lcGo g t te (wipeA env (own.map (·.2))) (PL At u d m H H0 Q) (items.drop (i + 1)) acc,
      fun H' h' => ⟨items.length - (i + 1), by omega, h'⟩, fun x H2 y => ?_⟩
    obtain ⟨H02, T2, dx⟩ := yl x H2 y
    unfold lcGo at kk
    try dsimp only at kk
    have S2 := (((S.go T1).go Tc).go T2).wipe (own.map (·.2))
    refine ⟨u, d, m, He, He0, H02, _, _, S2, dx, mg _ _ _ _ (fun env1 k1 => ?_) (lg _ _ _ kk)⟩
    obtain ⟨k0, k1⟩ := k1
    intro σ' S' fr
    refine ⟨wipe_eq (by rw [← S'.len, k0, wipeA_length]; exact S.len) fr, ?_⟩
    refine ⟨u, d, m, He, He0, H02, env1, S', mt _ _ _ _ _ (fun b k2 => ?_) (fun _ z => z.elim) k1⟩
    intro H3 H03 T3
    have d2 : H2 D = some (.lst accV) := T2.off D _ n1 n2 hcD
    have d20 : H02 D = none := T2.own D n1 n2 (by rw [hcD]; simp) h0D
    have d3 : H3 D = some (.lst accV) := T3.off D _ n1 n2 d2
    have d30 : H03 D = none := T3.own D n1 n2 (by rw [d2]; simp) d20
    refine iteB (fun eb => ?_) fun eb => ?_
    · refine ⟨u, d, m, He, He0, H03, env1, S'.go T3, me _ _ _ _ _ (fun r k3 => ?_) (fun _ z => z.elim) (k2.1 eb)⟩
      intro v H4 H04 T4 r4
      have d4 : H4 D = some (.lst accV) := T4.off D _ n1 n2 d3
      have d40 : H04 D = none := T4.own D n1 n2 (by rw [d3]; simp) d30
      cases r with
      | v q =>
        have dA : DXs u d H04 accV acc := ((dacc.off T2.off0).off T3.off0).off T4.off0
        refine ⟨accV, d4, small6 (by rw [dA.length]; omega), rfl, hlt, H04, accV ++ [v], acc ++ [q], lst_put (Tc.trans (T2.trans (T3.trans T4))) T1.at_ hD d40, upd_same, d40, dA.append (.cons r4 .nil), by simp; omega, k3⟩
      | urn => exact k3.elim
    · exact ⟨rfl, hlt, H03, accV, acc, Tc.trans (T2.trans T3), d3, d30, (dacc.off T2.off0).off T3.off0, by omega, k2.2 eb⟩
  · have hi3 : i = items.length := by omega
    subst hi3
    rw [List.drop_length] at kk
    unfold lcGo at kk
    try dsimp only at kk
    exact .inl ⟨okJ.2 Hc H0c Tc.off0 Tc.sub, kk D accV Hc H0c (T1.trans Tc) hDH h0D hcD dacc⟩

theorem pel_lc {elt tg iter : Expr} {ifs : List Expr} {scope : Scope} {own : List (Str × Nat)} {it : AL_} {g : AG} {t : AT} {te : AE} (hc : X.calm = true) (hN : X.N.Nodup) (hi : PIA At X W tg iter it) (ok : BlkOk X.N X.env.scope scope own)
    (hg : ∀ (s : Shared) (H : Hp) (C : Addr) (cl : List (Str × Addr)) (fp : List Addr), PGA At (X.blk s H scope (compEnvC scope cl C X.env) fp) tg (own.map (·.2)) g) (ht : ∀ (s : Shared) (H : Hp) (C : Addr) (cl : List (Str × Addr)) (fp : List Addr), PTsA At (X.blk s H scope (compEnvC scope cl C X.env) fp) W0 ifs t)
    (he : ∀ (s : Shared) (H : Hp) (C : Addr) (cl : List (Str × Addr)) (fp : List Addr), PEA At (X.blk s H scope (compEnvC scope cl C X.env) fp) W0 elt te) (hs : ∀ x, foldedSetIterable iter X.env x = pure x := by intro _; rfl) :
    PEL At X W (.ListComp elt [⟨tg, iter, ifs, 0⟩] scope pos) (aLc (own.map (·.2)) it g t te) := by
  have mg := (hg X.s_0 (fun _ => none) 0 [] []).mono
  have lg := (hg X.s_0 (fun _ => none) 0 [] []).len
  have mt := (ht X.s_0 (fun _ => none) 0 [] []).mono
  have me := (he X.s_0 (fun _ => none) 0 [] []).mono
  exact ⟨pe_imp (pe_lc (tt := RT At X.mg W0 t) (te := RE At X.mg W0 te) hc hN hi.run ok (fun s H C cl fp => (hg s H C cl fp).run) (fun s H C cl fp => (ht s H C cl fp).run) (fun s H C cl fp => (he s H C cl fp).run) hs) fun σ H Q h => lc_go hi.mono mg lg mt me h,
    fun env Q Q' E E' h hx k => hi.mono env _ _ E E' (fun items kx => ⟨kx.1, lcGo_mono mg mt me h _ _ kx.2⟩) hx k⟩
end
end AL

/-! the abstract layer: statements -/
namespace AL
open PySem PySem.Spec PyProof.Rows L2 RW RZ PySem.RW U
structure AEnds where
  nx : AEnv → Prop
  rt : PyData → Prop
  bk : AEnv → Prop
  ct : AEnv → Prop
  ex : AX → AEnv → Prop
abbrev AS := AEnds → AEnv → Prop
structure AEnds.Le (D D' : AEnds) : Prop where
  nx : ∀ e, D.nx e → D'.nx e
  rt : ∀ q, D.rt q → D'.rt q
  bk : ∀ e, D.bk e → D'.bk e
  ct : ∀ e, D.ct e → D'.ct e
  ex : ∀ x e, D.ex x e → D'.ex x e
theorem AEnds.Le.refl (D : AEnds) : D.Le D := ⟨fun _ h => h, fun _ h => h, fun _ h => h, fun _ h => h, fun _ _ h => h⟩
def MonoS (s : AS) : Prop := ∀ D D' env, AEnds.Le D D' → s D env → s D' env
def PD (At : UT) (mg : Str → Option Value) (u d m : Addr) (He He0 H0s : Hp) (W : WX) (D : Ends) : AEnds where
  nx env' := ∀ σ' H' H0', ST At u d m He He0 H' H0' env' σ' → Off u d H0s H0' → D.nx σ' H'
  rt q := ∀ v σ' H' H0' env', ST At u d m He He0 H' H0' env' σ' → Off u d H0s H0' → DX u d H0' v q → D.rt v H'
  bk env' := ∀ σ' H' H0', ST At u d m He He0 H' H0' env' σ' → Off u d H0s H0' → D.bk σ' H'
  ct env' := ∀ σ' H' H0', ST At u d m He He0 H' H0' env' σ' → Off u d H0s H0' → D.ct σ' H'
  ex x env' := ∀ c dd σ' H' H0', ST At u d m He He0 H' H0' env' σ' → Off u d H0s H0' → RX mg u d H' H0' c dd x → W c dd σ' H'
theorem PD.go {At : UT} {mg : Str → Option Value} {u d m : Addr} {He He0 H0s H0t : Hp} {W : WX} {D : Ends} (O : Off u d H0s H0t) : (PD At mg u d m He He0 H0s W D).Le (PD At mg u d m He He0 H0t W D) :=
  ⟨fun e h σ' H' H0' S o => h σ' H' H0' S (O.trans o), fun q h v σ' H' H0' e S o => h v σ' H' H0' e S (O.trans o), fun e h σ' H' H0' S o => h σ' H' H0' S (O.trans o), fun e h σ' H' H0' S o => h σ' H' H0' S (O.trans o), fun x e h c dd σ' H' H0' S o => h c dd σ' H' H0' S (O.trans o)⟩
abbrev RS (At : UT) (mg : Str → Option Value) (W : WX) (s : AS) : TS := fun D σ H => ∃ u d m He He0 H0 env, ST At u d m He He0 H H0 env σ ∧ s (PD At mg u d m He He0 H0 W D) env
structure PSA (At : UT) (X : Cx) (W : WX) (st : Stmt) (s : AS) : Prop where
  run : PS X st (RS At X.mg W s)
  mono : MonoS s
structure PSsA (At : UT) (X : Cx) (W : WX) (st : List Stmt) (s : AS) : Prop where
  run : PSs X st (RS At X.mg W s)
  mono : MonoS s
theorem pss_imp {X : Cx} {st : List Stmt} {t S : TS} (h : PSs X st t) (hs : ∀ D σ H, S D σ H → t D σ H) : PSs X st S := ⟨fun pins s σ H D I q => h.run pins s σ H D I (hs D σ H q)⟩
section
variable {At : UT} [UOk At] {X : Cx} {W : WX} {e e1 e2 : Expr} {es : List Expr} {a b : AE} {aa : AA} {al : AL_} {ta : AT} {pos : Pos} {st : Stmt} {sts rest : List Stmt} {s t : AS}
/-- an expression's exceptions, a statement's -/
theorem px_of {u d m : Addr} {He He0 H H0 : Hp} {env : AEnv} {σ : L2.St} {D : Ends} (S : ST At u d m He He0 H H0 env σ) {x : AX} (h : (PD At X.mg u d m He He0 H0 W D).ex x env) : PX At X.mg u d m H H0 σ W x :=
  fun c dd H' H0' T r => h c dd σ H' H0' (S.go T) T.off0 r
def sNext : AS := fun D env => (fun (_ : Unit) => D.nx env) tl400
def sSeq (s t : AS) : AS := fun D env => (fun (_ : Unit) => s { D with nx := t D } env) tl400
theorem mono_next : MonoS sNext := fun _ _ _ h k => h.nx _ k
theorem mono_seq (hs : MonoS s) (ht : MonoS t) : MonoS (sSeq s t) := fun D D' env h k => hs { D with nx := t D } { D' with nx := t D' } env ⟨fun e k => ht _ _ _ h k, h.rt, h.bk, h.ct, h.ex⟩ k
theorem pssa_nil : PSsA At X W [] sNext := ⟨pss_imp pss_nil fun D σ H ⟨u, d, m, He, He0, H0, env, S, k⟩ => k _ _ _ S (Off.refl _), mono_next⟩
theorem pssa_cons (h1 : PSA At X W st s) (h2 : PSsA At X W rest t) : PSsA At X W (st :: rest) (sSeq s t) := by
  refine ⟨pss_imp (pss_cons h1.run h2.run) fun D σ H ⟨u, d, m, He, He0, H0, env, S, k⟩ => ⟨u, d, m, He, He0, H0, env, S, h1.mono { PD At X.mg u d m He He0 H0 W D with nx := t (PD At X.mg u d m He He0 H0 W D) } (PD At X.mg u d m He He0 H0 W { D with nx := RS At X.mg W t D }) env ⟨fun env1 k1 σ1 H1 H01 S1 O1 => ?_, fun _ h => h, fun _ h => h, fun _ h => h, fun _ _ h => h⟩ k⟩, mono_seq h1.mono h2.mono⟩
  exact ⟨u, d, m, He, He0, H01, env1, S1, h2.mono _ _ _ (PD.go O1) k1⟩
theorem pssa_one (h : PSA At X W st s) : PSsA At X W [st] s := ⟨pss_one h.run, h.mono⟩
theorem psa_pass : PSA At X W (.Pass pos) sNext := ⟨ps_imp ps_pass fun D σ H ⟨u, d, m, He, He0, H0, env, S, k⟩ => k _ _ _ S (Off.refl _), mono_next⟩
def sBrk : AS := fun D env => (fun (_ : Unit) => D.bk env) tl400
def sCont : AS := fun D env => (fun (_ : Unit) => D.ct env) tl400
theorem psa_break : PSA At X W (.Break pos) sBrk := ⟨ps_imp ps_break fun D σ H ⟨u, d, m, He, He0, H0, env, S, k⟩ => k _ _ _ S (Off.refl _), fun _ _ _ h k => h.bk _ k⟩
theorem psa_cont : PSA At X W (.Continue pos) sCont := ⟨ps_imp ps_continue fun D σ H ⟨u, d, m, He, He0, H0, env, S, k⟩ => k _ _ _ S (Off.refl _), fun _ _ _ h k => h.ct _ k⟩
/-! return -/
def sRet (a : AE) : AS := fun D env => (fun (_ : Unit) => a env (fun r => match r with | .v q => D.rt q | .urn => False) fun x => D.ex x env) tl400
theorem psa_ret (ha : PEA At X W e a) : PSA At X W (.Return (some e) pos) (sRet a) := by
  refine ⟨ps_imp (ps_ret ha.run) fun D σ H ⟨u, d, m, He, He0, H0, env, S, k⟩ => ⟨u, d, m, He, He0, H0, env, S, ha.mono _ _ _ _ _ (fun r k1 => ?_) (fun x k1 => px_of S k1) k⟩, fun D D' env h k => ha.mono _ _ _ _ _ (fun r k1 => ?_) (fun x k1 => h.ex _ _ k1) k⟩
  · intro v H1 H01 T1 r1
    split at k1
    · exact k1 v σ H1 H01 env (S.go T1) T1.off0 r1
    · exact k1.elim
  · split at k1
    · exact h.rt _ k1
    · exact k1
/-! if -/
def sIf (c : AT) (s t : AS) : AS := fun D env => (fun (_ : Unit) => c env (fun b => (b = true → s D env) ∧ (b = false → t D env)) fun x => D.ex x env) tl400
theorem psa_if {c : Expr} {s1 s2 : List Stmt} (hc : PTA At X W c ta) (h1 : PSsA At X W s1 s) (h2 : PSsA At X W s2 t) : PSA At X W (.If c s1 s2 pos) (sIf ta s t) := by
  refine ⟨ps_imp (ps_if hc.run h1.run h2.run) fun D σ H ⟨u, d, m, He, He0, H0, env, S, k⟩ => ⟨u, d, m, He, He0, H0, env, S, hc.mono _ _ _ _ _ (fun b k1 => ?_) (fun x k1 => px_of S k1) k⟩, fun D D' env h k => hc.mono _ _ _ _ _ (fun b k1 => ⟨fun e => h1.mono _ _ _ h (k1.1 e), fun e => h2.mono _ _ _ h (k1.2 e)⟩) (fun x k1 => h.ex _ _ k1) k⟩
  intro H1 H01 T1
  exact iteB (fun eb => ⟨u, d, m, He, He0, H01, env, S.go T1, h1.mono _ _ _ (PD.go T1.off0) (k1.1 eb)⟩) fun eb => ⟨u, d, m, He, He0, H01, env, S.go T1, h2.mono _ _ _ (PD.go T1.off0) (k1.2 eb)⟩
/-! assignment -/
def sSet (i : Nat) (a : AE) : AS := fun D env => (fun (_ : Unit) => a env (fun r => match r with | .v q => D.nx (env.set i (some (.dat q))) | .urn => False) fun x => D.ex x env) tl400
theorem mono_set {i : Nat} (ha : MonoG a) : MonoS (sSet i a) := fun D D' env h k => ha _ _ _ _ _ (fun r k1 => by
  split at k1
  · exact h.nx _ k1
  · exact k1) (fun x k1 => h.ex _ _ k1) k
theorem psa_set {i : Nat} {x : Str} {pos' : Pos} (hN : X.N.Nodup) (hi : X.N[i]? = some x) (hx : Loc X.env.scope x) (ha : PEA At X W e a) (hs : swapsWith e (some (.Name x pos')) pos.line X.env = pure false := by rfl) (hf : X.fn x = true ∨ X.env.scope.names.lookup x = some .local := by first | exact .inl rfl | exact .inr rfl | assumption) :
    PSA At X W (.Assign [.Name x pos'] e pos) (sSet i a) := by
  refine ⟨ps_imp (ps_set hN hi hx ha.run hs hf) fun D σ H ⟨u, d, m, He, He0, H0, env, S, k⟩ => ⟨u, d, m, He, He0, H0, env, S, ha.mono _ _ _ _ _ (fun r k1 => ?_) (fun x k1 => px_of S k1) k⟩, mono_set ha.mono⟩
  intro v H1 H01 T1 r1
  split at k1
  · exact k1 _ _ _ ((S.go T1).set r1 i) T1.off0
  · exact k1.elim
def sAsg (a : AE) (g : AG) : AS := fun D env => (fun (_ : Unit) => a env (fun r => match r with | .v q => g q env D.nx | .urn => False) fun x => D.ex x env) tl400
theorem psa_asg {tg : Expr} {vs : List Nat} {g : AG} (ha : PEA At X W e a) (hg : PGA At X tg vs g) (hs : swapsWithSole [tg] e pos.line X.env = pure false := by rfl) (hw : swappedStores [tg] e X.env = pure none := by rfl)
    (h1 : (assignEach [tg] X.env).map (·.2) = [assign tg X.env] := by rfl) : PSA At X W (.Assign [tg] e pos) (sAsg a g) := by
  refine ⟨ps_imp (ps_asg ha.run hg.run hs hw h1) fun D σ H ⟨u, d, m, He, He0, H0, env, S, k⟩ => ⟨u, d, m, He, He0, H0, env, S, ha.mono _ _ _ _ _ (fun r k1 => ?_) (fun x k1 => px_of S k1) k⟩, fun D D' env h k => ha.mono _ _ _ _ _ (fun r k1 => ?_) (fun x k1 => h.ex _ _ k1) k⟩
  · intro v H1 H01 T1 r1
    split at k1
    · exact ⟨u, d, m, He, He0, H01, env, _, S.go T1, r1, hg.mono _ _ _ _ (fun env' k2 σ' S' _ => k2 σ' _ _ S' T1.off0) k1⟩
    · exact k1.elim
  · split at k1
    · exact hg.mono _ _ _ _ (fun _ k2 => h.nx _ k2) k1
    · exact k1
/-- a new list of one's own -/
theorem ST.setOwn {u d m : Addr} {He He0 H H0 H1 H01 : Hp} {env : AEnv} {σ : L2.St} (S : ST At u d m He He0 H H0 env σ) (T : Stp At u d m H H0 H1 H01) {p : Addr} {vs : List V} {qs : List PyData} (h : H p = none) (h0 : H01 p = none) (h1 : H1 p = some (.lst vs)) (dx : DXs u d H01 vs qs) (i : Nat) :
    ST At u d m He He0 H1 H01 (env.set i (some (.own qs))) (σ.set i (some (.ref p))) := by
  have S1 := S.go T
  obtain ⟨n1, n2, n3⟩ := UOk.nfree S.at_ h
  have he : He p = none := by
    cases e : He p with
    | none => rfl
    | some o => have := S.stp.off p o n1 n2 e; rw [h] at this; cases this
  have fre : ∀ {j : Nat} {rs : List PyData}, env[j]? = some (some (.own rs)) → σ[j]? ≠ some (some (.ref p)) := fun {j rs} ej sj => by
    obtain ⟨a, vs', k1, k2, k3, k4, k5, k6, k7, k8⟩ := S.slot j _ ej
    rw [k1] at sj
    cases sj
    rw [h] at k6
    cases k6
  refine ⟨S1.stp, by rw [List.length_set, List.length_set]; exact S.len, fun j a hh => ?_, fun j k rs rs' b g1 g2 g3 g4 => ?_⟩
  · by_cases e : i = j
    · subst e
      by_cases hl : i < env.length
      · rw [List.getElem?_set_self hl] at hh
        cases hh
        rw [List.getElem?_set_self (by rw [← S.len]; exact hl)]
        exact ⟨p, vs, rfl, n1, n2, n3, he, h1, h0, dx⟩
      · rw [List.getElem?_eq_none (by simp; omega)] at hh
        cases hh
    · rw [List.getElem?_set_ne e] at hh
      rw [List.getElem?_set_ne e]
      exact S1.slot j a hh
  · by_cases e1 : i = j
    · subst e1
      by_cases e2 : i = k
      · exact e2
      · rw [List.getElem?_set_ne e2] at g2 g4
        have hl : i < env.length := by
          by_cases hl : i < env.length
          · exact hl
          · rw [List.getElem?_eq_none (by simp; omega)] at g1; cases g1
        rw [List.getElem?_set_self (by rw [← S.len]; exact hl)] at g3
        cases g3
        exact absurd g4 (fre g2)
    · by_cases e2 : i = k
      · subst e2
        rw [List.getElem?_set_ne e1] at g1 g3
        have hl : i < env.length := by
          by_cases hl : i < env.length
          · exact hl
          · rw [List.getElem?_eq_none (by simp; omega)] at g2; cases g2
        rw [List.getElem?_set_self (by rw [← S.len]; exact hl)] at g4
        cases g4
        exact absurd g3 (fre g1)
      · rw [List.getElem?_set_ne e1] at g1 g3
        rw [List.getElem?_set_ne e2] at g2 g4
        exact S.dis j k rs rs' b g1 g2 g3 g4
def sOwn (i : Nat) (al : AL_) : AS := fun D env => (fun (_ : Unit) => al env (fun qs => D.nx (env.set i (some (.own qs)))) fun x => D.ex x env) tl400
def sLst (i : Nat) (al : AL_) : AS := fun D env => (fun (_ : Unit) => al env (fun qs => D.nx (env.set i (some (.dat (.list qs))))) fun x => D.ex x env) tl400
theorem own_go {u d m : Addr} {He He0 H H0 : Hp} {env : AEnv} {σ : L2.St} {D : Ends} {i : Nat} {qs : List PyData} (S : ST At u d m He He0 H H0 env σ) (k1 : (PD At X.mg u d m He He0 H0 W D).nx (env.set i (some (.own qs)))) : PL At u d m H H0 (fun x H1 => gName i x σ H1 D.nx) qs :=
  fun p vs H1 H01 T1 h h0 h1 dx => k1 _ _ _ (S.setOwn T1 h h0 h1 dx i) T1.off0
theorem lst_go {u d m : Addr} {He He0 H H0 : Hp} {env : AEnv} {σ : L2.St} {D : Ends} {i : Nat} {qs : List PyData} (S : ST At u d m He He0 H H0 env σ) (k1 : (PD At X.mg u d m He He0 H0 W D).nx (env.set i (some (.dat (.list qs))))) : PL At u d m H H0 (fun x H1 => gName i x σ H1 D.nx) qs :=
  pl_pk S.at_ fun v H1 H01 T1 r1 => k1 _ _ _ ((S.go T1).set r1 i) T1.off0
theorem mono_own {i : Nat} (ha : MonoG al) : MonoS (sOwn i al) := fun D D' env h k => ha _ _ _ _ _ (fun r k1 => h.nx _ k1) (fun x k1 => h.ex _ _ k1) k
theorem mono_lst {i : Nat} (ha : MonoG al) : MonoS (sLst i al) := fun D D' env h k => ha _ _ _ _ _ (fun r k1 => h.nx _ k1) (fun x k1 => h.ex _ _ k1) k
theorem psa_own {i : Nat} {x : Str} {pos' : Pos} (hN : X.N.Nodup) (hi : X.N[i]? = some x) (hx : Loc X.env.scope x) (ha : PEL At X W e al) (hs : swapsWith e (some (.Name x pos')) pos.line X.env = pure false := by rfl) (hf : X.fn x = true ∨ X.env.scope.names.lookup x = some .local := by first | exact .inl rfl | exact .inr rfl | assumption) :
    PSA At X W (.Assign [.Name x pos'] e pos) (sOwn i al) :=
  ⟨ps_imp (ps_set hN hi hx ha.run hs hf) fun D σ H ⟨u, d, m, He, He0, H0, env, S, k⟩ => ⟨u, d, m, He, He0, H0, env, S, ha.mono _ _ _ _ _ (fun r k1 => own_go S k1) (fun x k1 => px_of S k1) k⟩, mono_own ha.mono⟩
/-- x = [.. for ..] on one line -/
theorem psa_lcD {i : Nat} {y : Str} {py spos : Pos} {elt tg iter : Expr} {ifs : List Expr} {scope : Scope} {own : List (Str × Nat)} {it : AL_} {g : AG} {t : AT} {te : AE} (hc : X.calm = true) (hN : X.N.Nodup) (hy : X.N[i]? = some y) (hyl : X.env.scope.names.lookup y = some .local)
    (hsw : swapsWith (.ListComp elt [⟨tg, iter, ifs, 0⟩] scope pos) (some (.Name y py)) spos.line X.env = pure true) (hi : PIA At X W tg iter it) (ok : BlkOk X.N X.env.scope scope own)
    (hg : ∀ (s : Shared) (H : Hp) (C : Addr) (cl : List (Str × Addr)) (fp : List Addr), PGA At (X.blk s H scope (compEnvC scope cl C X.env) fp) tg (own.map (·.2)) g) (ht : ∀ (s : Shared) (H : Hp) (C : Addr) (cl : List (Str × Addr)) (fp : List Addr), PTsA At (X.blk s H scope (compEnvC scope cl C X.env) fp) W0 ifs t)
    (he : ∀ (s : Shared) (H : Hp) (C : Addr) (cl : List (Str × Addr)) (fp : List Addr), PEA At (X.blk s H scope (compEnvC scope cl C X.env) fp) W0 elt te) (hs : ∀ x, foldedSetIterable iter X.env x = pure x := by intro _; rfl) :
    PSA At X W (.Assign [.Name y py] (.ListComp elt [⟨tg, iter, ifs, 0⟩] scope pos) spos) (sLst i (aLc (own.map (·.2)) it g t te)) := by
  have mg := (hg X.s_0 (fun _ => none) 0 [] []).mono
  have lg := (hg X.s_0 (fun _ => none) 0 [] []).len
  have mt := (ht X.s_0 (fun _ => none) 0 [] []).mono
  have me := (he X.s_0 (fun _ => none) 0 [] []).mono
  have mm : MonoG (aLc (own.map (·.2)) it g t te) := fun env Q Q' E E' h hx k => hi.mono env _ _ E E' (fun items kx => ⟨kx.1, lcGo_mono mg mt me h _ _ kx.2⟩) hx k
  have key := ps_setLc (tt := RT At X.mg W0 t) (te := RE At X.mg W0 te) hc hN hy hyl hsw hi.run ok (fun s H C cl fp => (hg s H C cl fp).run) (fun s H C cl fp => (ht s H C cl fp).run) (fun s H C cl fp => (he s H C cl fp).run) hs
  exact ⟨ps_imp key fun D σ H ⟨u, d, m, He, He0, H0, env, S, k⟩ => lc_go hi.mono mg lg mt me ⟨u, d, m, He, He0, H0, env, S, mm _ _ _ _ _ (fun r k1 => lst_go S k1) (fun x k1 => px_of S k1) k⟩, mono_lst mm⟩
/-- x = [.. for ..] on one line -/
theorem psa_lcO {i : Nat} {y : Str} {py spos : Pos} {elt tg iter : Expr} {ifs : List Expr} {scope : Scope} {own : List (Str × Nat)} {it : AL_} {g : AG} {t : AT} {te : AE} (hc : X.calm = true) (hN : X.N.Nodup) (hy : X.N[i]? = some y) (hyl : X.env.scope.names.lookup y = some .local)
    (hsw : swapsWith (.ListComp elt [⟨tg, iter, ifs, 0⟩] scope pos) (some (.Name y py)) spos.line X.env = pure true) (hi : PIA At X W tg iter it) (ok : BlkOk X.N X.env.scope scope own)
    (hg : ∀ (s : Shared) (H : Hp) (C : Addr) (cl : List (Str × Addr)) (fp : List Addr), PGA At (X.blk s H scope (compEnvC scope cl C X.env) fp) tg (own.map (·.2)) g) (ht : ∀ (s : Shared) (H : Hp) (C : Addr) (cl : List (Str × Addr)) (fp : List Addr), PTsA At (X.blk s H scope (compEnvC scope cl C X.env) fp) W0 ifs t)
    (he : ∀ (s : Shared) (H : Hp) (C : Addr) (cl : List (Str × Addr)) (fp : List Addr), PEA At (X.blk s H scope (compEnvC scope cl C X.env) fp) W0 elt te) (hs : ∀ x, foldedSetIterable iter X.env x = pure x := by intro _; rfl) :
    PSA At X W (.Assign [.Name y py] (.ListComp elt [⟨tg, iter, ifs, 0⟩] scope pos) spos) (sOwn i (aLc (own.map (·.2)) it g t te)) := by
  have mg := (hg X.s_0 (fun _ => none) 0 [] []).mono
  have lg := (hg X.s_0 (fun _ => none) 0 [] []).len
  have mt := (ht X.s_0 (fun _ => none) 0 [] []).mono
  have me := (he X.s_0 (fun _ => none) 0 [] []).mono
  have mm : MonoG (aLc (own.map (·.2)) it g t te) := fun env Q Q' E E' h hx k => hi.mono env _ _ E E' (fun items kx => ⟨kx.1, lcGo_mono mg mt me h _ _ kx.2⟩) hx k
  have key := ps_setLc (tt := RT At X.mg W0 t) (te := RE At X.mg W0 te) hc hN hy hyl hsw hi.run ok (fun s H C cl fp => (hg s H C cl fp).run) (fun s H C cl fp => (ht s H C cl fp).run) (fun s H C cl fp => (he s H C cl fp).run) hs
  exact ⟨ps_imp key fun D σ H ⟨u, d, m, He, He0, H0, env, S, k⟩ => lc_go hi.mono mg lg mt me ⟨u, d, m, He, He0, H0, env, S, mm _ _ _ _ _ (fun r k1 => own_go S k1) (fun x k1 => px_of S k1) k⟩, mono_own mm⟩
/-! an expression for its deeds -/
def sDrop (a : AE) : AS := fun D env => (fun (_ : Unit) => a env (fun _ => D.nx env) fun x => D.ex x env) tl400
theorem psa_expr (ha : PEA At X W e a) (hs : swapsWith e none pos.line X.env = pure false := by rfl) : PSA At X W (.Expr e pos) (sDrop a) := by
  refine ⟨ps_imp (ps_expr ha.run hs) fun D σ H ⟨u, d, m, He, He0, H0, env, S, k⟩ => ⟨u, d, m, He, He0, H0, env, S, ha.mono _ _ _ _ _ (fun r k1 => ?_) (fun x k1 => px_of S k1) k⟩, fun D D' env h k => ha.mono _ _ _ _ _ (fun r k1 => h.nx _ k1) (fun x k1 => h.ex _ _ k1) k⟩
  intro v H1 H01 T1 r1
  exact k1 σ H1 H01 (S.go T1) T1.off0
/-! for -/
def forGo (g : AG) (body : AS) (D : AEnds) : List PyData → AEnv → Prop
  | [], env => D.nx env
  | x :: xs, env => g x env fun env1 => body { D with nx := forGo g body D xs, ct := forGo g body D xs, bk := D.nx } env1
theorem forGo_mono {g : AG} {body : AS} (hg : MonoT g) (hb : MonoS body) {D D' : AEnds} (h : AEnds.Le D D') : ∀ xs env, forGo g body D xs env → forGo g body D' xs env
  | [], env, k => h.nx _ k
  | x :: xs, env, k => hg _ _ _ _ (fun env1 k1 => hb { D with nx := forGo g body D xs, ct := forGo g body D xs, bk := D.nx } { D' with nx := forGo g body D' xs, ct := forGo g body D' xs, bk := D'.nx } env1 ⟨fun e k2 => forGo_mono hg hb h xs e k2, h.rt, fun e k2 => h.nx _ k2, fun e k2 => forGo_mono hg hb h xs e k2, h.ex⟩ k1) k
def sFor (it : AL_) (g : AG) (body : AS) : AS := fun D env => (fun (_ : Unit) => it env (fun items => forGo g body D items env) fun x => D.ex x env) tl400
theorem psa_for {tg iter : Expr} {body : List Stmt} {vs : List Nat} {it : AL_} {g : AG} (hp : PassesOwn (model X.prog X.w) X.A X.env X.xe) (hc : X.calm = true) (hi : PIA At X W tg iter it) (hg : PGA At X tg vs g) (hb : PSsA At X W body s)
    (hs : ∀ x, foldedSetIterable iter X.env x = pure x := by intro _; rfl) : PSA At X W (.For tg iter body [] pos) (sFor it g s) := by
  refine ⟨ps_imp (ps_for hp hc hi.run hg.run hb.run hs) fun D σ H ⟨u, d, m, He, He0, H0, env, S, k⟩ => ⟨u, d, m, He, He0, H0, env, S, hi.mono _ _ _ _ _ (fun items k1 => ?_) (fun x k1 => px_of S k1) k⟩,
    fun D D' env h k => hi.mono _ _ _ _ _ (fun items k1 => forGo_mono hg.mono hb.mono h _ _ k1) (fun x k1 => h.ex _ _ k1) k⟩
  intro J H1 H01 T1 okJ
  refine ⟨fun i mm σ2 H2 => mm = items.length - i ∧ i ≤ items.length ∧ ∃ H02 env2, ST At u d m He He0 H2 H02 env2 σ2 ∧ Off u d H01 H02 ∧ forGo g s (PD At X.mg u d m He He0 H02 W D) (items.drop i) env2,
    ⟨items.length, by simp, Nat.zero_le _, H01, env, S.go T1, Off.refl _, forGo_mono hg.mono hb.mono (PD.go T1.off0) _ _ k1⟩, ?_⟩
  rintro i mm σ2 H2 ⟨rfl, hi2, H02, env2, S2, O2, kk⟩
  by_cases hlt : i < items.length
  · have ei : items[i]? = some items[i] := List.getElem?_eq_getElem hlt
    have ed : items.drop i = items[i] :: items.drop (i + 1) := by rw [List.drop_eq_getElem_cons hlt]
    rw [ed] at kk
    obtain ⟨go, yl⟩ := okJ.1 i H2 H02 items[i] O2 S2.sub S2.at_ ei
    refine .inr ⟨go, fun σ' H' => items.length - (i + 1) = items.length - (i + 1) ∧ i + 1 ≤ items.length ∧ ∃ H0' env', ST At u d m He He0 H' H0' env' σ' ∧ Off u d H01 H0' ∧ forGo g s (PD At X.mg u d m He He0 H0' W D) (items.drop (i + 1)) env',
      fun σ' H' h' => ⟨items.length - (i + 1), by omega, h'⟩, fun x H3 y => ?_⟩
    obtain ⟨H03, T3, dx⟩ := yl x H3 y
    unfold forGo at kk
    try dsimp only at kk
    refine ⟨u, d, m, He, He0, H03, env2, _, S2.go T3, dx, hg.mono _ _ _ _ (fun env' k2 σ' S' _ => ?_) kk⟩
    have O3 := O2.trans T3.off0
    have G3 : (PD At X.mg u d m He He0 H02 W D).Le (PD At X.mg u d m He He0 H03 W D) := PD.go T3.off0
    refine ⟨u, d, m, He, He0, H03, env', S', hb.mono { PD At X.mg u d m He He0 H02 W D with nx := forGo g s (PD At X.mg u d m He He0 H02 W D) (items.drop (i + 1)), ct := forGo g s (PD At X.mg u d m He He0 H02 W D) (items.drop (i + 1)), bk := (PD At X.mg u d m He He0 H02 W D).nx } _ _ ?_ k2⟩
    refine ⟨fun e1 k3 σ4 H4 H04 S4 O4 => ⟨rfl, hlt, H04, e1, S4, O3.trans O4, forGo_mono hg.mono hb.mono (PD.go (T3.off0.trans O4)) _ _ k3⟩, G3.rt, fun e1 k3 σ4 H4 H04 S4 O4 => k3 _ _ _ S4 (T3.off0.trans O4),
      fun e1 k3 σ4 H4 H04 S4 O4 => ⟨rfl, hlt, H04, e1, S4, O3.trans O4, forGo_mono hg.mono hb.mono (PD.go (T3.off0.trans O4)) _ _ k3⟩, G3.ex⟩
  · have hi3 : i = items.length := by omega
    subst hi3
    rw [List.drop_length] at kk
    exact .inl ⟨okJ.2 H2 H02 O2 S2.sub, kk _ _ _ S2 (Off.refl _)⟩
/-! lists of one's own -/
/-- it becomes data -/
def sFrz (i : Nat) (s : AS) : AS := fun D env => (fun (_ : Unit) => match env[i]? with
  | some (some (.own qs)) => s D (env.set i (some (.dat (.list qs))))
  | _ => s D env) tl400
theorem ST.frz {u d m : Addr} {He He0 H H0 : Hp} {env : AEnv} {σ : L2.St} (S : ST At u d m He He0 H H0 env σ) {i : Nat} {qs : List PyData} (e : env[i]? = some (some (.own qs))) : ∃ H01, Off u d H0 H01 ∧ ST At u d m He He0 H H01 (env.set i (some (.dat (.list qs)))) σ := by
  obtain ⟨p, vs, h1, n1, n2, n3, h2, h3, h4, h5⟩ := S.slot i _ e
  have O : Off u d H0 (upd H0 p (.lst vs)) := fun b o _ _ eb => by rw [upd_ne (ne_of_none eb h4)]; exact eb
  have T : Stp At u d m He He0 H (upd H0 p (.lst vs)) := ⟨S.stp.off, S.stp.off0.trans O, fun b b1 b2 hb hb0 => by
    have n : b ≠ p := fun z => hb (z ▸ h2)
    rw [upd_ne n]; exact S.stp.own b b1 b2 hb hb0, fun b o b1 b2 eb => by
    by_cases z : b = p
    · subst z; rw [upd_same] at eb; rw [h3]; exact eb
    · rw [upd_ne z] at eb; exact S.sub b o b1 b2 eb, S.at_⟩
  refine ⟨_, O, T, by rw [List.length_set]; exact S.len, fun j a hh => ?_, fun j k rs rs' b g1 g2 g3 g4 => ?_⟩
  · by_cases e1 : i = j
    · subst e1
      have hl : i < env.length := (List.getElem?_eq_some_iff.mp e).1
      rw [List.getElem?_set_self hl] at hh
      cases hh
      exact ⟨_, h1, .lst n1 n2 upd_same (h5.off O)⟩
    · rw [List.getElem?_set_ne e1] at hh
      have hS := S.slot j a hh
      cases a with
      | urn => exact hS
      | dat q => exact let ⟨v, k1, k2⟩ := hS; ⟨v, k1, k2.off O⟩
      | own rs =>
        obtain ⟨a, ws, k1, k2, k3, k4, k5, k6, k7, k8⟩ := hS
        refine ⟨a, ws, k1, k2, k3, k4, k5, k6, ?_, k8.off O⟩
        have n : a ≠ p := fun z => by
          subst z
          exact e1 (S.dis i j qs rs a e hh h1 k1)
        rw [upd_ne n]; exact k7
  · have nj : ∀ {j : Nat} {rs : List PyData}, (env.set i (some (.dat (.list qs))))[j]? = some (some (.own rs)) → i ≠ j := fun {j rs} g z => by
      subst z
      rw [List.getElem?_set_self (List.getElem?_eq_some_iff.mp e).1] at g
      cases g
    rw [List.getElem?_set_ne (nj g1)] at g1
    rw [List.getElem?_set_ne (nj g2)] at g2
    exact S.dis j k rs rs' b g1 g2 g3 g4
theorem mono_frz {i : Nat} (hs : MonoS s) : MonoS (sFrz i s) := fun D D' env h k => by
  unfold sFrz at k ⊢
  try dsimp only at k ⊢
  split at k <;> exact hs _ _ _ h k
theorem psa_frz (i : Nat) (h : PSA At X W st s) : PSA At X W st (sFrz i s) := by
  refine ⟨ps_imp h.run fun D σ H ⟨u, d, m, He, He0, H0, env, S, k⟩ => ?_, mono_frz h.mono⟩
  unfold sFrz at k
  try dsimp only at k
  split at k
  · rename_i qs e
    obtain ⟨H01, O, S1⟩ := S.frz e
    exact ⟨u, d, m, He, He0, H01, _, S1, h.mono _ _ _ (PD.go O) k⟩
  · exact ⟨u, d, m, He, He0, H0, env, S, k⟩
theorem pssa_frz (i : Nat) (h : PSsA At X W sts s) : PSsA At X W sts (sFrz i s) := by
  refine ⟨pss_imp h.run fun D σ H ⟨u, d, m, He, He0, H0, env, S, k⟩ => ?_, mono_frz h.mono⟩
  unfold sFrz at k
  try dsimp only at k
  split at k
  · rename_i qs e
    obtain ⟨H01, O, S1⟩ := S.frz e
    exact ⟨u, d, m, He, He0, H01, _, S1, h.mono _ _ _ (PD.go O) k⟩
  · exact ⟨u, d, m, He, He0, H0, env, S, k⟩
/-- written to -/
theorem ST.write {u d m : Addr} {He He0 H H0 : Hp} {env : AEnv} {σ : L2.St} (S : ST At u d m He He0 H H0 env σ) {i : Nat} {qs rs : List PyData} {p : Addr} {ws : List V} (e : env[i]? = some (some (.own qs))) (es : σ[i]? = some (some (.ref p))) (dx : DXs u d H0 ws rs) :
    ST At u d m He He0 (upd H p (.lst ws)) H0 (env.set i (some (.own rs))) σ := by
  obtain ⟨p', vs, h1, n1, n2, n3, h2, h3, h4, h5⟩ := S.slot i _ e
  rw [h1] at es
  cases es
  have T : Stp At u d m He He0 (upd H p (.lst ws)) H0 := ⟨fun b o b1 b2 eb => by rw [upd_ne (ne_of_none eb h2)]; exact S.stp.off b o b1 b2 eb, S.stp.off0, S.stp.own, fun b o b1 b2 eb => by rw [upd_ne (ne_of_none eb h4)]; exact S.sub b o b1 b2 eb, UOk.put S.at_ n1 n2 n3⟩
  have hl : i < env.length := (List.getElem?_eq_some_iff.mp e).1
  refine ⟨T, by rw [List.length_set]; exact S.len, fun j a hh => ?_, fun j k rs1 rs2 b g1 g2 g3 g4 => ?_⟩
  · by_cases e1 : i = j
    · subst e1
      rw [List.getElem?_set_self hl] at hh
      cases hh
      exact ⟨p, ws, h1, n1, n2, n3, h2, upd_same, h4, dx⟩
    · rw [List.getElem?_set_ne e1] at hh
      have hS := S.slot j a hh
      cases a with
      | urn => exact hS
      | dat q => exact hS
      | own rs' =>
        obtain ⟨a, ws', k1, k2, k3, k4, k5, k6, k7, k8⟩ := hS
        have n : a ≠ p := fun z => by
          subst z
          exact e1 (S.dis i j qs rs' a e hh h1 k1)
        exact ⟨a, ws', k1, k2, k3, k4, k5, by rw [upd_ne n]; exact k6, k7, k8⟩
  · have old : ∀ {j : Nat} {rs' : List PyData}, (env.set i (some (.own rs)))[j]? = some (some (.own rs')) → ∃ r, env[j]? = some (some (.own r)) := fun {j rs'} g => by
      by_cases z : i = j
      · subst z; exact ⟨_, e⟩
      · rw [List.getElem?_set_ne z] at g; exact ⟨_, g⟩
    obtain ⟨r1, k1⟩ := old g1
    obtain ⟨r2, k2⟩ := old g2
    exact S.dis j k r1 r2 b k1 k2 g3 g4
/-- x.append(e) -/
def sApp (i : Nat) (a : AE) : AS := fun D env => (fun (_ : Unit) => match env[i]? with
  | some (some (.own qs)) => a env (fun r => match r with
    | .v q => qs.length ≤ 2000000 ∧ D.nx (env.set i (some (.own (qs ++ [q]))))
    | .urn => False) fun x => D.ex x env
  | _ => False) tl400
theorem mono_app {i : Nat} (ha : MonoG a) : MonoS (sApp i a) := fun D D' env h k => by
  unfold sApp at k ⊢
  try dsimp only at k ⊢
  split at k
  · exact ha _ _ _ _ _ (fun r k1 => by
      split at k1
      · exact ⟨k1.1, h.nx _ k1.2⟩
      · exact k1) (fun x k1 => h.ex _ _ k1) k
  · exact k
theorem psa_app {i : Nat} {x : Str} {p p2 p3 : Pos} (hN : X.N[i]? = some x) (hv : Vis X.env.scope x) (ha : PEA At X W e a) (hd : (x == ("__debug__" : Str)) = false := by decide) (hcd : (x == ("__classdict__" : Str)) = false := by decide)
    (hs1 : starEach [e] X.env = (false, eval e X.env) :: starEach [] X.env := by rfl)
    (k0 : PE X (.Name x p) (tVar i) → PA X [e] (tCons (RE At X.mg W a) tNil) → PS X (.Expr (.Call (.Attribute (.Name x p) "append" p2) [e] [] p3) pos) (tDrop (tBM X.K "list" rAppend (tVar i) (tCons (RE At X.mg W a) tNil))) := by
      exact fun hx ha => ps_expr (pe_bm PySem.F.plainAttrs_list PySem.F.slot_list_append PySem.F.type_list_append mt_append hx ha)) : PSA At X W (.Expr (.Call (.Attribute (.Name x p) "append" p2) [e] [] p3) pos) (sApp i a) := by
  refine ⟨ps_imp (k0 (pe_var hN hv hd hcd) (pa_cons ha.run pa_nil hs1)) fun D σ H ⟨u, d, m, He, He0, H0, env, S, k⟩ => ?_, mono_app ha.mono⟩
  unfold sApp at k
  try dsimp only at k
  split at k
  · rename_i qs eq
    obtain ⟨q0, vs, h1, n1, n2, n3, h2, h3, h4, h5⟩ := S.slot i _ eq
    refine ⟨_, h1, .inl ⟨rfl, _, SqL.of h3⟩, u, d, m, He, He0, H0, env, S, ha.mono _ _ _ _ _ (fun r k1 => ?_) (fun x k1 => px_of S k1) k⟩
    intro v H1 H01 T1 r1
    split at k1
    · have e3 := T1.off _ _ n1 n2 h3
      have dA := h5.off T1.off0
      refine ⟨q0, vs, v, rfl, rfl, e3, small6 (by rw [dA.length]; exact k1.1), k1.2 _ _ _ ((S.go T1).write eq h1 (dA.append (.cons r1 .nil))) T1.off0⟩
    · exact k1.elim
  · exact k.elim
end
end AL

/-! the abstract layer: defs and their calls -/
namespace AL
open PySem PySem.Spec PyProof.Rows L2 RW RZ PySem.RW U
/-- as FnG, for a def that may raise -/
structure FnX (P : Program) (w : World) (K : PySem.W.Frag) (mg : Str → Option Value) (base : Heap) (k : Nat) (f : Addr) (fd : FuncData) (ps : List Str) (sp : Sp) : Prop where
  len : ∀ vs H Q E, sp vs H Q E → vs.length = ps.length
  run : ∀ (A : Around) (outer : List Env) (s : Shared) (H : Hp) (args : Args) (us : List Value) (vs : List V) (Q : VK) (E : XK), A.guards = some [] → Room k A → Env0 P w K mg base A outer s H → BindsTo s fd args (ps.zip us) → Vals vs us → sp vs H Q E →
    codeAny (model P w) A (.call (.ref f) args) (CR (L2.CX P w) outer P w H s Q E) s
section
variable {P : Program} {w : World} {K : PySem.W.Frag} {mg : Str → Option Value} {base : Heap}
theorem fnX_of {x qual : Str} {st : Stmt} {f : Addr} {fd : FuncData} {N ps : List Str} {k : Nat} {sp : Sp} (F : Fun K x qual st f fd) (S : FnScope N ps (defScope st)) (len : ∀ vs H Q E, sp vs H Q E → vs.length = ps.length)
    (hbody : ∀ (cdv : Value) (A : Around) (outer : List Env) (s : Shared) (H : Hp) (vs : List V) (Q : VK) (E : XK), (A.deeper (envOfC qual (defScope st) s.heap.objs.size f cdv)).guards = some [] → Room k (A.deeper (envOfC qual (defScope st) s.heap.objs.size f cdv)) → sp vs H Q E →
      ∃ t, PSs (cxOf (L2.CX P w) P w K mg base N qual (defScope st) f cdv A outer s H E) (defBody st) t ∧ t { nx := fun _ H' => Q .non H', rt := Q } (L2.start N vs) H) : FnX P w K mg base (k + 1) f fd ps sp := by
  obtain ⟨oc, od, kV, doc, pm, an, cd, ct, osl, rfl, lk, hcd⟩ := F.ex
  refine ⟨len, fun A outer s H args us vs Q E hG hr e0 hb r hsp => ?_⟩
  have hl := len _ _ _ _ hsp
  have KX : K.In s.heap := e0.mod.kin.keeps fun b o e => (e0.bs b o e).1
  have lim : s.heap.NoLimit := e0.mod.nolimit.keeps fun b o e => (e0.bs b o e).1
  have hkind : ∀ y ∈ ps.zip us, (defScope st).names.lookup y.1 = some .local ∨ ((defScope st).names.lookup y.1 = some .cell ∧ ((cellsFrom (s.heap.objs.size + 1) (defScope st).names []).lookup y.1).isSome = true) := fun ⟨n, v⟩ hy => by
    rcases S.par n (List.of_mem_zip hy).1 with q | q
    · exact .inl q
    · exact .inr ⟨q, PySem.W.cellsFrom_some _ _ _ (.inl q)⟩
  refine codeAny_call_function hr.depth (KX _ _ lk) rfl S.co S.gen rfl (PySem.W.codeRec_of KX hcd) (hb _ _ _ _ ?_)
  refine wpAny_newFunctionEnv_cells S.kind hkind fun env he s1 x => ?_
  subst he
  refine ⟨lim.keeps x.toInCall.keep, codeAny_func ?_⟩
  obtain ⟨t, ht, hq⟩ := hbody cd A outer s H vs Q E (deeper_guards hG) (hr.deeper _) hsp
  have I : Inv (cxOf (L2.CX P w) P w K mg base N qual (defScope st) f cd A outer s H E) [] (L2.start N vs) H s1 := inv_start S hr.hd e0 hl r x
  refine wpAny_mono (ht.run [] s1 (L2.start N vs) H _ I hq) (fun fl s' hs => ?_) fun e s' hs => hs
  have fin : ∀ {σ' : L2.St} {H' : Hp} {v : V} {u : Value}, Inv (cxOf (L2.CX P w) P w K mg base N qual (defScope st) f cd A outer s H E) [] σ' H' s' → RelV v u → Q v H' → CE outer P w H s Q u s' :=
    fun {σ' H' v u} J rv q => ⟨v, H', J.os, J.bare, J.base, J.hok, rv, q⟩
  cases fl with
  | ret u =>
    obtain ⟨v, σ', H', J, rv, q⟩ := hs
    exact fin J rv q
  | next =>
    obtain ⟨σ', H', J, q⟩ := hs
    exact fin (v := V.non) (u := Value.none) J rfl q
  | brk =>
    obtain ⟨_, _, _, q⟩ := hs
    exact False.elim q
  | cont =>
    obtain ⟨_, _, _, q⟩ := hs
    exact False.elim q
end
/-- what a def does to data -/
abbrev AFun := List AR → (PyData → Prop) → AXK → Prop
/-- .. at least that -/
def AFun.up (F : AFun) (rs : List AR) (Q : PyData → Prop) (E : AXK) : Prop := ∃ (Q0 : PyData → Prop) (E0 : AXK), F rs Q0 E0 ∧ (∀ q, Q0 q → Q q) ∧ ∀ x, E0 x → E x
def spA (At : UT) (mg : Str → Option Value) (F : AFun) : Sp := fun vs H Q E => ∃ u d m H0 rs, At H u d m ∧ Off u d H0 H ∧ RVs u d H0 vs rs ∧
  AFun.up F rs (fun q => ∀ v H' H0', Stp At u d m H H0 H' H0' → DX u d H0' v q → Q v H') (fun x => ∀ c dd H' H0', Stp At u d m H H0 H' H0' → RX mg u d H' H0' c dd x → E c dd H')
structure FA (At : UT) (P : Program) (w : World) (K : PySem.W.Frag) (mg : Str → Option Value) (base : Heap) (k : Nat) (f : Addr) (fd : FuncData) (ps : List Str) (F : AFun) : Prop where
  run : FnX P w K mg base k f fd ps (spA At mg F)
/-- what a body is proved in -/
structure Bd (X : Cx) (W : WX) (k : Nat) : Prop where
  hG : X.A.guards = some []
  hr : Room k X.A
  tk : Takes X W
  hp : PassesOwn (model X.prog X.w) X.A X.env X.xe
theorem Bd.hu {X : Cx} {W : WX} {k : Nat} (b : Bd X W k) : X.A.units + 64 < cLine := b.hr.units
def toAV : AR → Option AV
  | .urn => some .urn
  | .v q => some (.dat q)
def startA (n : Nat) (rs : List AR) : AEnv := (fun (_ : Unit) => rs.map toAV ++ List.replicate (n - rs.length) none) tl400
def aFun (n p : Nat) (s : AS) : AFun := fun rs Q E => (fun (_ : Unit) => rs.length = p ∧ s ⟨fun _ => Q .none, Q, fun _ => False, fun _ => False, fun x _ => E x⟩ (startA n rs)) tl400
section
variable {At : UT} [UOk At] {P : Program} {w : World} {K : PySem.W.Frag} {mg : Str → Option Value} {base : Heap}
theorem start_st {u d m : Addr} {H H0 : Hp} {vs : List V} {rs : List AR} {N : List Str} (hat : At H u d m) (sub : Off u d H0 H) (r : RVs u d H0 vs rs) (hl : vs.length ≤ N.length) : ST At u d m H H0 H H0 (startA N.length rs) (L2.start N vs) := by
  have hlen := Paired.length r
  refine ⟨.refl sub hat, by unfold startA L2.start; simp; omega, fun i a h => ?_, fun i j qs rs' b h1 h2 h3 h4 => ?_⟩
  · unfold startA at h
    try dsimp only at h
    unfold L2.start
    by_cases hi : i < rs.length
    · rw [List.getElem?_append_left (by simpa using hi)] at h
      rw [List.getElem?_append_left (by simp; omega)]
      rw [List.getElem?_map] at h ⊢
      have e : rs[i]? = some rs[i] := List.getElem?_eq_getElem hi
      have e2 : vs[i]? = some vs[i] := List.getElem?_eq_getElem (by omega)
      obtain ⟨y, h5, h6⟩ := paired_at r e2
      rw [h5] at h
      rw [e2]
      cases y with
      | urn =>
        simp only [Option.map_some, toAV] at h
        cases h
        have h6 : vs[i] = .ref u := h6
        show some (some vs[i]) = _
        rw [h6]
      | v q =>
        simp only [Option.map_some, toAV] at h
        cases h
        exact ⟨_, rfl, h6⟩
    · rw [List.getElem?_append_right (by simp; omega)] at h
      by_cases hj : i - (rs.map toAV).length < N.length - rs.length
      · rw [List.getElem?_replicate, if_pos hj] at h
        cases h
      · rw [List.getElem?_replicate, if_neg hj] at h
        cases h
  · exfalso
    have no : ∀ {i : Nat} {qs : List PyData}, (startA N.length rs)[i]? ≠ some (some (.own qs)) := fun {i qs} h => by
      have hm := List.mem_of_getElem? h
      unfold startA at hm
      try dsimp only at hm
      rcases List.mem_append.mp hm with hm | hm
      · obtain ⟨a, h1, h2⟩ := List.mem_map.mp hm
        cases a <;> cases h2
      · have := (List.mem_replicate.mp hm).2
        cases this
    exact no h1
theorem fa_of {x qual : Str} {st : Stmt} {f : Addr} {fd : FuncData} {N ps : List Str} {k : Nat} {s : AS} (F : Fun K x qual st f fd) (S : FnScope N ps (defScope st)) (hl : ps.length ≤ N.length)
    (body : ∀ (cdv : Value) (A : Around) (outer : List Env) (sh : Shared) (H : Hp) (E : XK), Bd (cxOf (L2.CX P w) P w K mg base N qual (defScope st) f cdv A outer sh H E) (fun cls d _ H => E cls d H) k → PSsA At (cxOf (L2.CX P w) P w K mg base N qual (defScope st) f cdv A outer sh H E) (fun cls d _ H => E cls d H) (defBody st) s) : FA At P w K mg base (k + 1) f fd ps (aFun N.length ps.length s) := by
  refine ⟨fnX_of F S (fun vs H Q E h => ?_) (fun cdv A outer sh H vs Q E hG hr h => ?_)⟩
  · obtain ⟨u, d, m, H0, rs, hat, sub, r, Q0, E0, k, _⟩ := h
    rw [Paired.length r]
    exact k.1
  · obtain ⟨u, d, m, H0, rs, hat, sub, r, Q0, E0, ⟨hlen, k⟩, kQ, kE⟩ := h
    have B := body cdv A outer sh H E ⟨hG, hr, takes_of rfl rfl rfl rfl, passes_of rfl⟩
    refine ⟨_, B.run, ?_⟩
    refine ⟨u, d, m, H, H0, H0, startA N.length rs, start_st hat sub r (by rw [Paired.length r, hlen]; exact hl), B.mono _ (PD At mg u d m H H0 H0 (fun cls d _ H => E cls d H) { nx := fun _ H' => Q .non H', rt := Q }) _ ?_ k⟩
    exact ⟨fun e z σ' H' H0' S' O' => kQ _ z _ _ _ S'.stp .non, fun q z v σ' H' H0' e S' O' dx => kQ _ z v H' H0' S'.stp dx, fun _ z => z.elim, fun _ z => z.elim, fun x e z c dd σ' H' H0' S' O' rx => kE _ z c dd H' H0' S'.stp rx⟩
end
/-! ### calls -/
def aCall (G : AFun) (a : AA) : AE := fun env Q E => (fun (_ : Unit) => a env (fun rs => AFun.up G rs (fun q => Q (.v q)) E) E) tl400
section
variable {At : UT} [UOk At] {X : Cx} {W : WX} {e : Expr} {es : List Expr} {aa : AA} {pos p : Pos} {k : Nat} {f : Addr} {fd : FuncData} {ps : List Str} {G : AFun} {x : Str}
theorem runX {pins : List (Addr × Obj)} {σ : L2.St} {H : Hp} {s : Shared} {Q : VK} {us : List Value} {vs : List V} {sp : Sp} {E : XK} (F : FnX X.prog X.w X.K X.mg X.base k f fd ps sp) (hG : X.A.guards = some []) (hr : Room k X.A) (hb : Binds X.K fd ps []) (hx : PassesAt (L2.CX X.prog X.w) X σ E)
    (I : Inv X pins σ H s) (r : Vals vs us) (h : sp vs H Q E) : wpAny (model X.prog X.w) X.A (call (.ref f) us) (EP X pins σ Q) X.xe s := by
  have hl : us.length = ps.length := by rw [← r.length]; exact F.len _ _ _ _ h
  have b := hb s us I.kIn (by rw [List.append_nil]; exact hl)
  rw [List.append_nil] at b
  refine wpAny_call (codeAny_mono (F.run X.A X.stack s H ⟨us, []⟩ us vs Q E hG hr I.env0 b r h) fun r s' hq => ?_)
  cases r with
  | error e => exact hx pins H s e s' I hq
  | ok fl =>
    cases fl with
    | ret u => exact I.after hq
    | next => exact False.elim hq
    | brk => exact False.elim hq
    | cont => exact False.elim hq
theorem call_sp (F : FA At X.prog X.w X.K X.mg X.base k f fd ps G) {u d m : Addr} {He He0 H H0 H1 H01 : Hp} {env : AEnv} {σ : L2.St} {vs : List V} {rs : List AR} {Q : VK} (T1 : Stp At u d m H H0 H1 H01) (r1 : RVs u d H01 vs rs) (kx : AFun.up G rs (fun q => PK At u d m H H0 Q (.v q)) (PX At X.mg u d m H H0 σ W)) :
    spA At X.mg G vs H1 Q (WE W σ) :=
  let ⟨Q0, E0, k0, k1, k2⟩ := kx; ⟨u, d, m, H01, rs, T1.at_, T1.sub, r1, Q0, E0, k0, fun q z v H' H0' T2 dx => k1 q z v H' H0' (T1.trans T2) dx, fun x z c dd H' H0' T2 rx => k2 x z c dd H' H0' (T1.trans T2) rx⟩
theorem up_mono {rs : List AR} {Q Q' : PyData → Prop} {E E' : AXK} (h : ∀ q, Q q → Q' q) (hx : ∀ x, E x → E' x) (k : AFun.up G rs Q E) : AFun.up G rs Q' E' := let ⟨Q0, E0, k0, k1, k2⟩ := k; ⟨Q0, E0, k0, fun q z => h _ (k1 q z), fun x z => hx _ (k2 x z)⟩
theorem mono_call (ha : MonoG aa) : MonoG (aCall G aa) := fun env Q Q' E E' h hx k => ha env _ _ E E' (fun x kx => up_mono (fun q z => h _ z) hx kx) hx k
/-- f(e, ..) -/
theorem pea_call {j : Nat} (F : FA At X.prog X.w X.K X.mg X.base k f fd ps G) (b : Bd X W j) (hj : k ≤ j) (hg : Gl X x) (hm : X.mg x = some (.ref f)) (hk : PySem.W.keepIn X.K (.ref f) = true) (hb : Binds X.K fd ps []) (ha : PAA At X W (e :: es) aa)
    (hdb : (x == ("__debug__" : Str)) = false := by decide) (he : starEach (e :: es) X.env = (false, eval e X.env) :: starEach es X.env := by rfl) (hpl : (backTo pos (starEach es X.env)).any (·.1) = false := by rfl) :
    PEA At X W (.Call (.Name x p) (e :: es) [] pos) (aCall G aa) := by
  refine ⟨⟨fun pins s σ H Q I h => ?_⟩, mono_call ha.mono⟩
  obtain ⟨u, d, m, He, He0, H0, env, S, k⟩ := h
  refine wpAny_Call_Name_kw (ld_glob I hg hm ?_ hdb)
  refine PySem.W.callWith_K (h₀ := X.base) I.ok.mod.kin hk (thn (ha.run.run pos pins s σ H (fun vs H1 => spA At X.mg G vs H1 Q (WE W σ)) I ⟨u, d, m, He, He0, H0, env, S, ha.mono _ _ _ _ _ (fun rs kx vs H1 H01 T1 r1 => ?_) (fun _ z => z) k⟩) fun us s1 ⟨vs, H1, I1, r, q⟩ => ⟨I1.kIn, ?_⟩) he hpl
  · exact call_sp (He := He) (He0 := He0) (env := env) F T1 r1 kx
  · exact runX F.run b.hG (b.hr.mono hj) hb (passAt b.tk σ) I1 r q
/-- f(a=e, ..), keywords alone -/
def aCallK (G : AFun) (g : List AR → List AR) (a : AA) : AE := fun env Q E => (fun (_ : Unit) => a env (fun rs => AFun.up G (g rs) (fun q => Q (.v q)) E) E) tl400
structure PKA (At : UT) (X : Cx) (W : WX) (es : List Keyword) (a : AA) : Prop where
  run : L2.PK X es fun σ H Q => ∃ u d m He He0 H0 env, ST At u d m He He0 H H0 env σ ∧ a env (PKs At u d m H H0 Q) (PX At X.mg u d m H H0 σ W)
  mono : MonoG a
theorem pk_imp {X : Cx} {es : List Keyword} {t S : TA} (h : L2.PK X es t) (hs : ∀ σ H Q, S σ H Q → t σ H Q) : L2.PK X es S := ⟨fun pos pins s σ H Q I q => h.run pos pins s σ H Q I (hs σ H Q q)⟩
theorem pka_nil : PKA At X W [] aNil := ⟨pk_imp pk_nil fun σ H Q ⟨u, d, m, He, He0, H0, env, S, k⟩ => k _ _ _ (.refl S.sub S.at_) .nil, fun _ _ _ _ _ h _ k => h _ k⟩
theorem pka_cons {a : AE} {bb : AA} {kws : List Keyword} {nm : Option Str} {kpos : Pos} (ha : PEA At X W e a) (hb : PKA At X W kws bb) : PKA At X W (⟨nm, e, kpos⟩ :: kws) (aCons a bb) := by
  refine ⟨pk_imp (pk_cons ha.run hb.run) fun σ H Q ⟨u, d, m, He, He0, H0, env, S, k⟩ => ⟨u, d, m, He, He0, H0, env, S, ha.mono env _ _ _ _ (fun x kx => ?_) (fun _ z => z) k⟩, fun env Q Q' E E' h hx k => ha.mono env _ _ E E' (fun x kx => hb.mono env _ _ E E' (fun y ky => h _ ky) hx kx) hx k⟩
  intro v H1 H01 T1 r1
  refine ⟨u, d, m, He, He0, H01, env, S.go T1, hb.mono env _ _ _ _ (fun y ky => ?_) (fun _ z => PX.go T1 z) kx⟩
  intro w H2 H02 T2 r2
  exact ky _ _ _ (T1.trans T2) (.cons (r1.off T2.off0) r2)
theorem runXk {pins : List (Addr × Obj)} {σ : L2.St} {H : Hp} {s : Shared} {Q : VK} {ws : List Value} {zs : List V} {sp : Sp} {E : XK} {ks : List Str} {g : List Value → List Value → List Value} {gV : List V → List V → List V} (F : FnX X.prog X.w X.K X.mg X.base k f fd ps sp) (hG : X.A.guards = some []) (hr : Room k X.A) (hb : KBinds X.K fd ps ks g gV) (hx : PassesAt (L2.CX X.prog X.w) X σ E)
    (I : Inv X pins σ H s) (rz : Vals zs ws) (h : sp (gV [] zs) H Q E) : wpAny (model X.prog X.w) X.A (call (.ref f) [] (ks.zip ws)) (EP X pins σ Q) X.xe s := by
  have r2 := hb.rel (vs := []) (us := []) .nil rz
  have hl : (g [] ws).length = ps.length := by rw [← r2.length]; exact F.len _ _ _ _ h
  refine wpAny_call (codeAny_mono (F.run X.A X.stack s H ⟨[], ks.zip ws⟩ (g [] ws) (gV [] zs) Q E hG hr I.env0 (hb.to s [] ws I.kIn hl) r2 h) fun r s' hq => ?_)
  cases r with
  | error e => exact hx pins H s e s' I hq
  | ok fl =>
    cases fl with
    | ret u => exact I.after hq
    | next => exact False.elim hq
    | brk => exact False.elim hq
    | cont => exact False.elim hq
theorem pea_callK {j : Nat} {kws : List Keyword} {ks : List Str} {g : List Value → List Value → List Value} {gV : List V → List V → List V} {gA : List AR → List AR} (F : FA At X.prog X.w X.K X.mg X.base k f fd ps G) (b : Bd X W j) (hj : k ≤ j) (hg : Gl X x) (hm : X.mg x = some (.ref f)) (hk : PySem.W.keepIn X.K (.ref f) = true) (hb : KBinds X.K fd ps ks g gV)
    (hA : ∀ {u d : Addr} {H : Hp} {zs : List V} {rs : List AR}, RVs u d H zs rs → RVs u d H (gV [] zs) (gA rs)) (ha : PKA At X W kws aa)
    (hall : (backToKw pos (keywordEach kws X.env)).all (·.1.isSome) = true := by rfl) (hks : (backToKw pos (keywordEach kws X.env)).filterMap (·.1) = ks := by rfl)
    (hdb : (x == ("__debug__" : Str)) = false := by decide)
    (hpl : ((backTo pos (starEach [] X.env)).any (·.1) || (backToKw pos (keywordEach kws X.env)).any (·.1.isNone)) = false := by rfl) :
    PEA At X W (.Call (.Name x p) [] kws pos) (aCallK G gA aa) := by
  refine ⟨⟨fun pins s σ H Q I h => ?_⟩, fun env Q Q' E E' h hx k => ha.mono env _ _ E E' (fun x kx => up_mono (fun q z => h _ z) hx kx) hx k⟩
  obtain ⟨u, d, m, He, He0, H0, env, S, k⟩ := h
  refine wpAny_Call_Name_kw (ld_glob I hg hm ?_ hdb)
  refine PySem.W.callWith_KW0 (h₀ := X.base) I.ok.mod.kin hk hall ?_ hpl
  refine thn (ha.run.run pos pins s σ H (fun vs H1 => spA At X.mg G (gV [] vs) H1 Q (WE W σ)) I ⟨u, d, m, He, He0, H0, env, S, ha.mono _ _ _ _ _ (fun rs kx vs H1 H01 T1 r1 => ?_) (fun _ z => z) k⟩) fun ws s2 ⟨zs, H2, I2, rz, q2⟩ => ⟨I2.kIn, ?_⟩
  · exact call_sp (He := He) (He0 := He0) (env := env) F T1 (hA r1) kx
  · rw [hks]
    exact runXk F.run b.hG (b.hr.mono hj) hb (passAt b.tk σ) I2 rz q2
end
end AL

/-! the abstract layer: exceptions, lists of one's own, frozen views -/
namespace AL
open PySem PySem.Spec PyProof.Rows L2 RW RZ PySem.RW U
def frzV : AV → AV
  | .own qs => .dat (.list qs)
  | a => a
def frzA (env : AEnv) : AEnv := env.map (Option.map frzV)
section
variable {At : UT} [UOk At] {X : Cx} {W : WX} {e e1 e2 : Expr} {es : List Expr} {a b : AE} {aa : AA} {al : AL_} {ta : AT} {pos : Pos} {st : Stmt} {sts rest : List Stmt} {s t : AS}
theorem ST.view {u d m : Addr} {He He0 H H0 : Hp} {env : AEnv} {σ : L2.St} (S : ST At u d m He He0 H H0 env σ) : ST At u d m H H H H (frzA env) σ := by
  refine ⟨.refl (Off.refl _) S.at_, by unfold frzA; rw [List.length_map]; exact S.len, fun i a h => ?_, fun i j qs rs b h1 h2 h3 h4 => ?_⟩
  · unfold frzA at h
    try dsimp only at h
    rw [List.getElem?_map] at h
    cases e : env[i]? with
    | none => rw [e] at h; cases h
    | some o =>
      rw [e] at h
      cases o with
      | none => cases h
      | some a0 =>
        have hS := S.slot i a0 e
        cases a0 with
        | urn => cases h; exact hS
        | dat q => cases h; exact let ⟨v, k1, k2⟩ := hS; ⟨v, k1, k2.off S.sub⟩
        | own qs =>
          cases h
          obtain ⟨p, vs, h1, n1, n2, n3, h2, h3, h4, h5⟩ := hS
          exact ⟨_, h1, .lst n1 n2 h3 (h5.off S.sub)⟩
  · exfalso
    unfold frzA at h1
    try dsimp only at h1
    rw [List.getElem?_map] at h1
    cases e : env[i]? with
    | none => rw [e] at h1; cases h1
    | some o =>
      rw [e] at h1
      cases o with
      | none => cases h1
      | some a0 => cases a0 <;> cases h1
theorem flat_any {u d : Addr} {H H' : Hp} {v : V} {q : PyData} (h : DX u d H v q) (f : flatD q = true) : DX u d H' v q := by
  cases h with
  | non => exact .non
  | bl b => exact .bl b
  | int i => exact .int i
  | str x => exact .str x
  | lst _ _ _ _ => cases f
  | tup _ _ _ _ => cases f
  | dic _ _ _ _ => cases f
theorem view_back {u d m : Addr} {He He0 H H0 H' H0'' : Hp} {env : AEnv} {σ : L2.St} (S : ST At u d m He He0 H H0 env σ) (T : Stp At u d m H H H' H0'') : Stp At u d m H H0 H' H0 :=
  ⟨T.off, Off.refl _, fun _ _ _ _ h => h, S.sub.trans T.off, T.at_⟩
/-- while nothing is changed -/
def aFz (a : AE) : AE := fun env Q _ => (fun (_ : Unit) => a (frzA env) (fun r => match r with | .v q => flatD q = true ∧ Q r | .urn => False) (fun _ => False)) tl400
theorem pea_fz (h : PEA At X W e a) : PEA At X W e (aFz a) := by
  refine ⟨pe_imp h.run fun σ H Q ⟨u, d, m, He, He0, H0, env, S, k⟩ => ⟨u, d, m, H, H, H, frzA env, S.view, h.mono _ _ _ _ _ (fun r k1 => ?_) (fun _ z => z.elim) k⟩, fun env Q Q' E E' hh hx k => h.mono _ _ _ _ _ (fun r k1 => ?_) (fun _ z => z) k⟩
  · intro v H1 H01 T1 r1
    split at k1
    · exact k1.2 v H1 H0 (view_back S T1) (flat_any r1 k1.1)
    · exact k1.elim
  · split at k1
    · exact ⟨k1.1, hh _ k1.2⟩
    · exact k1
def aFzT (a : AT) : AT := fun env Q _ => (fun (_ : Unit) => a (frzA env) Q (fun _ => False)) tl400
theorem pta_fz (h : PTA At X W e ta) : PTA At X W e (aFzT ta) := by
  refine ⟨pt_imp h.run fun σ H Q ⟨u, d, m, He, He0, H0, env, S, k⟩ => ⟨u, d, m, H, H, H, frzA env, S.view, h.mono _ _ _ _ _ (fun r k1 => ?_) (fun _ z => z.elim) k⟩, fun env Q Q' E E' hh hx k => h.mono _ _ _ _ _ (fun r k1 => hh _ k1) (fun _ z => z) k⟩
  intro H1 H01 T1
  exact k1 H1 H0 (view_back S T1)
/-! x[e1] = e2 -/
def sSetIx (i : Nat) (ai av : AE) : AS := fun D env => (fun (_ : Unit) => match env[i]? with
  | some (some (.own qs)) => av env (fun r => ai env (fun r2 => match r, r2 with
    | .v q, .v (.int k) => ∃ j, ixN qs.length k = some j ∧ D.nx (env.set i (some (.own (qs.set j q))))
    | _, _ => False) fun x => D.ex x env) fun x => D.ex x env
  | _ => False) tl400
theorem dxs_set {u d : Addr} {H : Hp} {v : V} {q : PyData} (h : DX u d H v q) : ∀ {vs : List V} {qs : List PyData} (j : Nat), DXs u d H vs qs → DXs u d H (vs.set j v) (qs.set j q)
  | _, _, _, .nil => .nil
  | _, _, 0, .cons _ t => .cons h t
  | _, _, j + 1, .cons g t => .cons g (dxs_set h j t)
theorem psa_setIx {i : Nat} {x : Str} {p p2 : Pos} (hN : X.N[i]? = some x) (hv : Vis X.env.scope x) (hi : PEA At X W e1 a) (ha : PEA At X W e2 b) (hd : (x == ("__debug__" : Str)) = false := by decide) (hcd : (x == ("__classdict__" : Str)) = false := by decide)
    (hs : swapsWithSole [.Subscript (.Name x p) e1 p2] e2 pos.line X.env = pure false := by rfl) (hw : swappedStores [.Subscript (.Name x p) e1 p2] e2 X.env = pure none := by rfl)
    (h1 : (assignEach [.Subscript (.Name x p) e1 p2] X.env).map (·.2) = [assign (.Subscript (.Name x p) e1 p2) X.env] := by rfl)
    (hpg : PE X (.Name x p) (tVar i) → PE X e1 (RE At X.mg W a) → PG X (.Subscript (.Name x p) e1 p2) (gSub (tVar i) (RE At X.mg W a) rSetL) := by exact fun ho hi => pg_sub ho hi set_list) :
    PSA At X W (.Assign [.Subscript (.Name x p) e1 p2] e2 pos) (sSetIx i a b) := by
  refine ⟨ps_imp (ps_asg ha.run (hpg (pe_var hN hv hd hcd) hi.run) hs hw h1) fun D σ H ⟨u, d, m, He, He0, H0, env, S, k⟩ => ?_, fun D D' env h k => ?_⟩
  · unfold sSetIx at k
    try dsimp only at k
    split at k
    · rename_i qs eq
      refine ⟨u, d, m, He, He0, H0, env, S, ha.mono _ _ _ _ _ (fun r k1 => ?_) (fun x k1 => px_of S k1) k⟩
      intro v H1 H01 T1 r1
      have S1 := S.go T1
      obtain ⟨q0, vs, h1, n1, n2, n3, h2, h3, h4, h5⟩ := S1.slot i _ eq
      refine ⟨_, h1, u, d, m, He, He0, H01, env, S1, hi.mono _ _ _ _ _ (fun r2 k2 => ?_) (fun x k1 => PX.go T1 (px_of S k1)) k1⟩
      intro v2 H2 H02 T2 r2'
      split at k2
      · obtain ⟨j, ej, k3⟩ := k2
        have e3 := T2.off _ _ n1 n2 h3
        have dA := h5.off T2.off0
        refine ⟨q0, vs, _, j, rfl, rv_int r2', e3, by rw [dA.length]; exact ej, k3 _ _ _ ((S1.go T2).write eq h1 (dxs_set (r1.off T2.off0) j dA)) (T1.off0.trans T2.off0)⟩
      · exact k2.elim
    · exact k.elim
  · unfold sSetIx at k ⊢
    try dsimp only at k ⊢
    split at k
    · refine ha.mono _ _ _ _ _ (fun r k1 => hi.mono _ _ _ _ _ (fun r2 k2 => ?_) (fun x k1 => h.ex _ _ k1) k1) (fun x k1 => h.ex _ _ k1) k
      split at k2
      · exact let ⟨j, ej, k3⟩ := k2; ⟨j, ej, h.nx _ k3⟩
      · exact k2
    · exact k
/-! raise X() -/
abbrev bmVE : List Value := [.type "ValueError", .type "Exception", .type "BaseException", .type "object"]
structure Exc0C (K : PySem.W.Frag) (mg : Str → Option Value) (cls : Str) : Prop where
  ex : ∃ C, mg cls = some (.ref C) ∧ PySem.W.excIn K C bmVE "ValueError.__new__" = true ∧ PySem.W.keepIn K (.ref C) = true ∧ PySem.W.subIn K (.ref C) (.type "BaseException") = some true ∧ PySem.W.typeIn K (.ref C) = some (.type "type")
def sRaise0 (cls : Str) : AS := fun D env => (fun (_ : Unit) => D.ex ⟨cls, none⟩ env) tl400
theorem psa_raise0 {x : Str} {p p2 : Pos} (c : Exc0C X.K X.mg x) (hc : X.calm = true) (tk : Takes X W) (hg : Gl X x) (hd : (x == ("__debug__" : Str)) = false := by decide) : PSA At X W (.Raise (some (.Call (.Name x p) [] [] p2)) none pos) (sRaise0 x) := by
  obtain ⟨C, h1, h2, h3, h4, h5⟩ := c.ex
  exact ⟨ps_imp (ps_raise hc tk (pmk_own0 PySem.F.excBase_ValueError h2 h1 h3 (raises_own h4 h5) hg hd)) fun D σ H ⟨u, d, m, He, He0, H0, env, S, k⟩ => k _ _ σ H H0 S (Off.refl _) ⟨C, h1, rfl, rfl⟩, fun D D' env h k => h.ex _ _ k⟩
theorem pssa_dead {sts' : List Stmt} : PSsA At X W sts' (fun _ _ => False) := ⟨pss_imp pss_never fun D σ H ⟨u, d, m, He, He0, H0, env, S, k⟩ => k, fun _ _ _ _ k => k⟩
/-! try: .. except X: .. -/
def noEx (D : AEnds) : AEnds := (fun (_ : Unit) => { D with ex := fun _ _ => False }) tl400
def tryX (cs : List (Str × Bool)) (t : AS) (D : AEnds) (x : AX) (env' : AEnv) : Prop := (fun (_ : Unit) => match cs.lookup x.cls with
  | some true => t (noEx D) env'
  | some false => D.ex x env'
  | none => False) tl400
def sTry (cs : List (Str × Bool)) (s t : AS) : AS := fun D env => (fun (_ : Unit) => s { D with ex := tryX cs t D } env) tl400
structure ExMs (K : PySem.W.Frag) (mg : Str → Option Value) (c : Value) (cs : List (Str × Bool)) : Prop where
  ms : ∀ n b, cs.lookup n = some b → ∀ C, mg n = some (.ref C) → PySem.W.exmOne K (.ref C) c = some b
theorem psa_try {x : Str} {c : Value} {body suite : List Stmt} {b0 : Stmt} {np pos' : Pos} {cs : List (Str × Bool)} (hs : X.stack = X.env :: X.outer) (hf : X.env.frame = some X.env.locals) (hc : Names X x c) (tk : Takes X W) (M : ExMs X.K X.mg c cs)
    (hb : ∀ (W' : WX) (pn : List (Addr × Obj)) (xe : Value → Shared → Prop), Takes (X.tr pn xe) W' → PassesOwn (model X.prog X.w) X.A X.env xe → PSsA At (X.tr pn xe) W' body s)
    (hsu : ∀ (a : Addr) (pn : List (Addr × Obj)), PSsA At (X.suite a pn) W0 (b0 :: suite) t) :
    PSA At X W (.Try body [.ExceptHandler (some (.Name x np)) none (b0 :: suite) pos'] [] [] pos) (sTry cs s t) := by
  have hms : MonoS s := (hb W0 [] (fun _ _ => False) takes0 PassesOwn.never).mono
  have hmt : MonoS t := (hsu 0 []).mono
  refine ⟨ps_imp (ps_try_only (tb := fun W' => RS At X.mg W' s) (ts := fun _ _ _ => RS At X.mg W0 t) hs hf hc tk (fun W' pn xe tk' hp' => (hb W' pn xe tk' hp').run) (fun a oe cls d pn _ _ => (hsu a ((a, oe) :: pn)).run)) fun D σ H ⟨u, d, m, He, He0, H0, env, S, k⟩ => ?_, fun D D' env h k => ?_⟩
  · refine ⟨u, d, m, He, He0, H0, env, S, hms { PD At X.mg u d m He He0 H0 W D with ex := tryX cs t (PD At X.mg u d m He He0 H0 W D) } _ env ⟨fun _ h => h, fun _ h => h, fun _ h => h, fun _ h => h, fun x0 env' k1 => ?_⟩ k⟩
    intro cc dd σ' H' H0' S' O' rx
    obtain ⟨C, g1, rfl, g3⟩ := id rx
    have k1 : tryX cs t (PD At X.mg u d m He He0 H0 W D) x0 env' := k1
    unfold tryX at k1
    try dsimp only at k1
    split at k1
    · rename_i e
      refine ⟨true, M.ms _ _ e _ g1, fun _ a ha => ?_, fun eb => by cases eb⟩
      have G : (PD At X.mg u d m He He0 H0 W D).Le (PD At X.mg u d m He He0 H0' W D) := PD.go O'
      exact ⟨u, d, m, He, He0, H0', env', S', hmt (noEx (PD At X.mg u d m He He0 H0 W D)) _ _ ⟨G.nx, G.rt, G.bk, G.ct, fun _ _ z => False.elim z⟩ k1⟩
    · rename_i e
      exact ⟨false, M.ms _ _ e _ g1, fun eb => (by cases eb), fun _ => k1 _ _ _ _ _ S' O' rx⟩
    · exact k1.elim
  · refine hms { D with ex := tryX cs t D } { D' with ex := tryX cs t D' } _ ⟨h.nx, h.rt, h.bk, h.ct, fun x0 env' k1 => ?_⟩ k
    have k1 : tryX cs t D x0 env' := k1
    show tryX cs t D' x0 env'
    unfold tryX at k1 ⊢
    try dsimp only at k1 ⊢
    split at k1
    · exact hmt (noEx D) (noEx D') _ ⟨h.nx, h.rt, h.bk, h.ct, fun _ _ z => z⟩ k1
    · exact h.ex _ _ k1
    · exact k1
theorem Bd.tr {k : Nat} (b : Bd X W k) {W' : WX} {pn : List (Addr × Obj)} {xe : Value → Shared → Prop} (tk : Takes (X.tr pn xe) W') (hp : PassesOwn (model X.prog X.w) X.A X.env xe) : Bd (X.tr pn xe) W' k := ⟨b.hG, b.hr, tk, hp⟩
theorem Bd.blk {k : Nat} (b : Bd X W k) {sh : Shared} {H : Hp} {scope : Scope} {cenv : Env} {fp : List Addr} : Bd (X.blk sh H scope cenv fp) W0 k := ⟨b.hG, b.hr, takes0, PassesOwn.never⟩
/-! sorted(xs), whole numbers -/
theorem o_sorted {K : PySem.W.Frag} : CallA At (rSortedI K) fSorted := by
  refine ⟨fun u d m H H0 xs rs Q hat sub r1 k => ?_, onInts_mono fun _ _ _ h k => fun ms a b => h _ (k ms a b)⟩
  obtain ⟨a, ns, h1, h2, h3⟩ := onInts_go (K := K) sub r1 k
  exact ⟨a, ns, h1, h2, fun ns' p pm pw hp => pk_lst sub hat (dxs_ints ns') (h3 ns' pm pw) hp⟩
end
/-! ### the urn -/
instance : UOk UrnAt where
  same := fun h S => h.same S
  put := fun {H u d m a o} h n1 n2 n3 => by
    obtain ⟨⟨ds, ms, sm, n, h1, h2, h3, h4⟩, h5⟩ := h
    exact ⟨⟨ds, ms, sm, n, by rw [upd_ne (Ne.symm n1)]; exact h1, by rw [upd_ne (Ne.symm n2)]; exact h2, by rw [upd_ne (Ne.symm n3)]; exact h3, h4⟩, h5⟩
  nfree := fun h hp => ⟨(h.nfree hp).1, (h.nfree hp).2, h.nfreeM hp⟩
def A_take : AFun := fun rs Q _ => ∃ size : Int, rs = [.urn, .v (.int size)] ∧ 0 < size ∧ size < 1073741824 ∧ ∀ r, 0 ≤ r → r < size → Q (.int r)
section
variable {P : Program} {w : World} {K : PySem.W.Frag} {mg : Str → Option Value} {base : Heap} {k : Nat} {f : Addr} {fd : FuncData} {ps : List Str} {sp : Sp}
theorem FnX.of_ok (F : FnOk P w K mg base CX0 k f fd ps sp) : FnX P w K mg base k f fd ps sp := ⟨F.len, fun A outer s H args us vs Q E hG hr e0 hb r h => codeAny_mono (F.run A outer s H args us vs Q E hr e0 hb r h) fun r s' hq => by
  cases r with
  | error e => exact False.elim hq
  | ok fl => cases fl <;> exact hq⟩
theorem FnX.imp {sp' : Sp} (F : FnX P w K mg base k f fd ps sp) (h : ∀ vs H Q E, sp' vs H Q E → sp vs H Q E) : FnX P w K mg base k f fd ps sp' :=
  ⟨fun vs H Q E q => F.len vs H Q E (h _ _ _ _ q), fun A outer s H args us vs Q E hG hr he hb hv hs => F.run A outer s H args us vs Q E hG hr he hb hv (h _ _ _ _ hs)⟩
theorem fa_take (F : FnOk P w K mg base CX0 k f fd ps spTake) : FA UrnAt P w K mg base k f fd ps A_take := ⟨(FnX.of_ok F).imp fun vs H Q E h => by
  obtain ⟨u, d, m, H0, rs, hat, sub, r, Q0, E0, ⟨size, rfl, h1, h2, h3⟩, kQ, _⟩ := h
  obtain ⟨v, w, rfl, r1, r2⟩ := rvs2 r
  obtain rfl : v = .ref u := r1
  obtain rfl := rv_int r2
  exact ⟨u, d, m, size, rfl, h1, h2, hat, fun H' r a b U O => kQ _ (h3 r a b) _ _ H0 ⟨O, Off.refl _, fun _ _ _ _ h => h, sub.trans O, U⟩ (.int r)⟩⟩
end
structure CalA (At : UT) (P : Program) (w : World) (K : PySem.W.Frag) (mg : Str → Option Value) (base : Heap) (x : Str) (k : Nat) (ps : List Str) (F : AFun) : Prop where
  ex : ∃ f fd, FA At P w K mg base k f fd ps F ∧ mg x = some (.ref f) ∧ PySem.W.keepIn K (.ref f) = true ∧ Binds K fd ps []
structure CalKA (At : UT) (P : Program) (w : World) (K : PySem.W.Frag) (mg : Str → Option Value) (base : Heap) (x : Str) (k : Nat) (ps ks : List Str) (g : List Value → List Value → List Value) (gV : List V → List V → List V) (F : AFun) : Prop where
  ex : ∃ f fd, FA At P w K mg base k f fd ps F ∧ mg x = some (.ref f) ∧ PySem.W.keepIn K (.ref f) = true ∧ KBinds K fd ps ks g gV
theorem g1A {u d : Addr} {H : Hp} {zs : List V} {rs : List AR} (h : RVs u d H zs rs) : RVs u d H (g1 [] zs) (g1 [] rs) := by
  cases h with
  | nil => exact .nil
  | cons a b =>
    cases b with
    | nil => exact .cons a .nil
    | cons c d => exact .nil
theorem g2A {u d : Addr} {H : Hp} {zs : List V} {rs : List AR} (h : RVs u d H zs rs) : RVs u d H (g2 [] zs) (g2 [] rs) := by
  cases h with
  | nil => exact .nil
  | cons a b =>
    cases b with
    | nil => exact .nil
    | cons c d =>
      cases d with
      | nil => exact .cons a (.cons c .nil)
      | cons e f => exact .nil
theorem g2sA {u d : Addr} {H : Hp} {zs : List V} {rs : List AR} (h : RVs u d H zs rs) : RVs u d H (g2s [] zs) (g2s [] rs) := by
  cases h with
  | nil => exact .nil
  | cons a b =>
    cases b with
    | nil => exact .nil
    | cons c d =>
      cases d with
      | nil => exact .cons c (.cons a .nil)
      | cons e f => exact .nil
end AL

namespace AL
open PySem PySem.Spec PyProof.Rows L2 RW RZ PySem.RW U
section
variable {At : UT} [UOk At] {X : Cx} {W : WX} {e e1 e2 : Expr} {es : List Expr} {a b : AE} {aa : AA} {pos : Pos}
theorem apv (i : Nat) {x : Str} (hN : X.N[i]? = some x := by rfl) (hv : Vis X.env.scope x := by first | exact Or.inl rfl | exact Or.inr (Or.inl rfl) | exact Or.inr (Or.inr rfl)) (hd : (x == ("__debug__" : Str)) = false := by decide)
    (hcd : (x == ("__classdict__" : Str)) = false := by decide) : PEA At X W (.Name x pos) (aVar i) := pea_var hN hv hd hcd
def sPar2 (i j : Nat) (aa : AA) : AS := fun D env => (fun (_ : Unit) => aa env (fun rs => match rs with
  | [.v q, .v r] => D.nx ((env.set i (some (.dat q))).set j (some (.dat r)))
  | _ => False) fun x => D.ex x env) tl400
theorem psa_par2 {i j : Nat} {x y : Str} {a b : Expr} {px py pt : Pos} {kt k2 pt2} (hc : X.calm = true) (hN : X.N.Nodup) (hi : X.N[i]? = some x) (hj : X.N[j]? = some y) (hij : i ≠ j)
    (hx : X.env.scope.names.lookup x = some .local) (hy : X.env.scope.names.lookup y = some .local) (ha : PAA At X W [a, b] aa)
    (hw : swappedStores [.Tuple [.Name x px, .Name y py] kt pt] (.Tuple [a, b] k2 pt2) X.env = pure (some [x, y]))
    (hs : swapsWithSole [.Tuple [.Name x px, .Name y py] kt pt] (.Tuple [a, b] k2 pt2) pos.line X.env = pure false := by rfl) :
    PSA At X W (.Assign [.Tuple [.Name x px, .Name y py] kt pt] (.Tuple [a, b] k2 pt2) pos) (sPar2 i j aa) := by
  refine ⟨ps_imp (ps_par hc hN hi hj hij hx hy ha.run hw hs) fun D σ H ⟨u, d, m, He, He0, H0, env, S, k⟩ => ⟨u, d, m, He, He0, H0, env, S, ha.mono _ _ _ _ _ (fun r k1 => ?_) (fun x k1 => px_of S k1) k⟩, fun D D' env h k => ha.mono _ _ _ _ _ (fun r k1 => ?_) (fun x k1 => h.ex _ _ k1) k⟩
  · intro vs H1 H01 T1 r1
    split at k1
    · obtain ⟨v, w, rfl, r2, r3⟩ := rvs2 r1
      exact ⟨v, w, rfl, k1 _ _ _ (((S.go T1).set r2 i).set r3 j) T1.off0⟩
    · exact k1.elim
  · split at k1
    · exact h.nx _ k1
    · exact k1
theorem rvs3 {u d : Addr} {H : Hp} {xs : List V} {r r2 r3 : AR} (h : RVs u d H xs [r, r2, r3]) : ∃ v w z, xs = [v, w, z] ∧ RV u d H v r ∧ RV u d H w r2 ∧ RV u d H z r3 := by
  cases h with
  | cons a b =>
    obtain ⟨w, z, rfl, h1, h2⟩ := rvs2 b
    exact ⟨_, _, _, rfl, a, h1, h2⟩
def sPar3 (i j l : Nat) (aa : AA) : AS := fun D env => (fun (_ : Unit) => aa env (fun rs => match rs with
  | [.v q, .v r, .v s] => D.nx (((env.set i (some (.dat q))).set j (some (.dat r))).set l (some (.dat s)))
  | _ => False) fun x => D.ex x env) tl400
theorem psa_par3 {i j l : Nat} {x y z : Str} {a b c : Expr} {px py pz pt : Pos} {kt k2 pt2} (hc : X.calm = true) (hN : X.N.Nodup) (hi : X.N[i]? = some x) (hj : X.N[j]? = some y) (hl : X.N[l]? = some z) (hij : i ≠ j) (hil : i ≠ l) (hjl : j ≠ l)
    (hx : X.env.scope.names.lookup x = some .local) (hy : X.env.scope.names.lookup y = some .local) (hz : X.env.scope.names.lookup z = some .local) (ha : PAA At X W [a, b, c] aa)
    (hw : swappedStores [.Tuple [.Name x px, .Name y py, .Name z pz] kt pt] (.Tuple [a, b, c] k2 pt2) X.env = pure (some [x, y, z]))
    (hs : swapsWithSole [.Tuple [.Name x px, .Name y py, .Name z pz] kt pt] (.Tuple [a, b, c] k2 pt2) pos.line X.env = pure false := by rfl) :
    PSA At X W (.Assign [.Tuple [.Name x px, .Name y py, .Name z pz] kt pt] (.Tuple [a, b, c] k2 pt2) pos) (sPar3 i j l aa) := by
  refine ⟨ps_imp (ps_par3 hc hN hi hj hl hij hil hjl hx hy hz ha.run hw hs) fun D σ H ⟨u, d, m, He, He0, H0, env, S, k⟩ => ⟨u, d, m, He, He0, H0, env, S, ha.mono _ _ _ _ _ (fun r k1 => ?_) (fun x k1 => px_of S k1) k⟩, fun D D' env h k => ha.mono _ _ _ _ _ (fun r k1 => ?_) (fun x k1 => h.ex _ _ k1) k⟩
  · intro vs H1 H01 T1 r1
    split at k1
    · obtain ⟨v, w, z', rfl, r2, r3, r4⟩ := rvs3 r1
      exact ⟨v, w, z', rfl, k1 _ _ _ ((((S.go T1).set r2 i).set r3 j).set r4 l) T1.off0⟩
    · exact k1.elim
  · split at k1
    · exact h.nx _ k1
    · exact k1
end
end AL

namespace AL
open PySem L2 RW RZ PySem.RW U
/-- the law's body behind its first row: the urn is there, the law tells True -/
def lawA (n : Nat) (s : AS) : Prop := s ⟨fun _ => False, fun q => q = .bool true, fun _ => False, fun _ => False, fun _ _ => False⟩ (none :: some .urn :: List.replicate (n - 2) none)
def spLaw (K : PySem.W.Frag) : Sp := fun vs H Q _ => ∃ (a : Addr) (ns : List Int), vs = [.ref a] ∧ SqL K H a (ns.map V.int) ∧ ∀ H', Q (.bl true) H'
theorem law_go {X : Cx} {W : WX} {rest : List Stmt} {s : AS} {n : Nat} (T : PSsA UrnAt X W rest s) (h : lawA n s) (hn : 2 ≤ n) {u d m : Addr} {H0 : Hp} (U : UrnAt H0 u d m) {σ : L2.St} (hl : σ.length = n) (h1 : σ[1]? = some (some (.ref u))) {Q : VK} (kQ : ∀ H', Q (.bl true) H') {nx : L2.St → Hp → Prop} :
    ∃ u d m He He0 H00 env, ST UrnAt u d m He He0 H0 H00 env σ ∧ s (PD UrnAt X.mg u d m He He0 H00 W { nx := nx, rt := Q }) env := by
  refine ⟨u, d, m, H0, H0, H0, none :: some .urn :: List.replicate (n - 2) none, ⟨.refl (Off.refl _) U, by simp; omega, fun i a e => ?_, fun i j qs rs b e1 => ?_⟩, T.mono _ _ _ ?_ h⟩
  · match i, e with
    | 0, e => simp at e
    | 1, e =>
      simp only [List.getElem?_cons_succ, List.getElem?_cons_zero, Option.some.injEq] at e
      subst e
      exact h1
    | i + 2, e =>
      simp only [List.getElem?_cons_succ] at e
      have := (List.mem_replicate.mp (List.mem_of_getElem? e)).2
      cases this
  · match i, e1 with
    | 0, e => simp at e
    | 1, e => simp at e
    | i + 2, e =>
      simp only [List.getElem?_cons_succ] at e
      have := (List.mem_replicate.mp (List.mem_of_getElem? e)).2
      cases this
  · exact ⟨fun _ z => z.elim, fun q e v σ' H' H0' env' S O dx => by
      subst e
      cases dx
      exact kQ _, fun _ z => z.elim, fun _ z => z.elim, fun _ _ z => z.elim⟩
section
variable {P : Program} {w : World} {K : PySem.W.Frag} {mg : Str → Option Value} {base : Heap} {k : Nat} {f : Addr} {fd : FuncData} {ps : List Str}
theorem fnG_of_X (F : FnX P w K mg base k f fd ps (spLaw K)) : FnG P w K mg base k f fd ps (spLaw K) :=
  ⟨F.len, fun A outer s H args us vs Q E hG hr e0 hb r h => codeAny_mono (F.run A outer s H args us vs Q (fun _ _ _ => False) hG hr e0 hb r h) fun r s' hq => by
    cases r with
    | error e =>
      obtain ⟨a, B, H', cls, d, _, _, _, _, _, _, _, z⟩ := hq
      exact z.elim
    | ok fl => cases fl <;> exact hq⟩
end
theorem ExMs.nil {K : PySem.W.Frag} {mg : Str → Option Value} {c : Value} : ExMs K mg c [] := ⟨fun n b h => by cases h⟩
theorem ExMs.cons {K : PySem.W.Frag} {mg : Str → Option Value} {c : Value} {x : Str} {U : Addr} {b0 : Bool} {cs : List (Str × Bool)} (m : mg x = some (.ref U)) (e : PySem.W.exmOne K (.ref U) c = some b0) (r : ExMs K mg c cs) : ExMs K mg c ((x, b0) :: cs) := ⟨fun n b h C hC => by
  rw [List.lookup_cons] at h
  split at h
  · rename_i e1
    have e2 : n = x := by simpa using e1
    subst e2
    cases h
    rw [m] at hC
    cases hC
    exact e
  · exact r.ms n b h C hC⟩
/-- which classes a clause takes, by their lines of bases -/
theorem exm_sub {K : PySem.W.Frag} {R S : Addr} {b : Bool} (r : PySem.W.subIn K (.ref S) (.type "BaseException") = some true) (c : PySem.W.isClsIn K S = true) (t : PySem.W.typeIn K (.ref S) = some (.type "type")) (q : PySem.W.subIn K (.ref R) (.ref S) = some b) : PySem.W.exmOne K (.ref R) (.ref S) = some b := by
  unfold PySem.W.isClsIn at c
  unfold PySem.W.exmOne
  rw [r]
  unfold PySem.W.kitCls
  simp [c, t, q]
end AL

/-! the abstract layer: what its reader needs -/
namespace AL
open PySem L2 RW RZ PySem.RW U
theorem up_of {F : AFun} {rs : List AR} {Q : PyData → Prop} {E : AXK} (h : F rs Q E) : AFun.up F rs Q E := ⟨Q, E, h, fun _ z => z, fun _ z => z⟩
theorem up_iff {F : AFun} {rs : List AR} {r : PyData} (h : ∀ (Q : PyData → Prop) (E : AXK), F rs Q E ↔ Q r) (Q : PyData → Prop) (E : AXK) : AFun.up F rs Q E ↔ Q r :=
  ⟨fun ⟨Q0, E0, a, b, _⟩ => b _ ((h Q0 E0).mp a), fun a => up_of ((h Q E).mpr a)⟩
theorem up_iffX {F : AFun} {rs : List AR} {r : PyData} {x : AX} {c : Prop} [Decidable c] (h : ∀ (Q : PyData → Prop) (E : AXK), F rs Q E ↔ if c then Q r else E x) (Q : PyData → Prop) (E : AXK) : AFun.up F rs Q E ↔ if c then Q r else E x := by
  constructor
  · rintro ⟨Q0, E0, a, b, d⟩
    have := (h Q0 E0).mp a
    by_cases hc : c
    · rw [if_pos hc] at this ⊢
      exact b _ this
    · rw [if_neg hc] at this ⊢
      exact d _ this
  · exact fun a => up_of ((h Q E).mpr a)
/-- a row -/
abbrev Row := List (Option Int)
abbrev rowD (xs : Row) : PyData := .tuple (xs.map pd)
abbrev rowsD (L : List Row) : PyData := .tuple (L.map rowD)
abbrev intsL (ns : List Int) : PyData := .list (ns.map .int)
abbrev natsL (ns : List Nat) : PyData := .list (ns.map fun n => .int (n : Nat))
theorem pdn : pd none = .none := rfl
theorem pds (i : Int) : pd (some i) = .int i := rfl
theorem isNone_pd (o : Option Int) : isNone (pd o) = o.isNone := by cases o <;> rfl
theorem flat_pd (o : Option Int) : flatD (pd o) = true := by cases o <;> rfl
theorem eqv_pd (a b : Option Int) : PyData.eqv (pd a) (pd b) = decide (a = b) := by
  cases a <;> cases b <;> simp [pd, PyData.eqv]
  rename_i x y
  by_cases h : x = y <;> simp [h]
theorem eqOk_int (i : Int) : EqOk (.int i) := ⟨rfl, by simp [SeqAt.shaped, PyData.canLay0, PyData.depth]⟩
theorem eqOk_non : EqOk .none := ⟨rfl, by simp [SeqAt.shaped, PyData.canLay0, PyData.depth]⟩
theorem eqOk_pd (o : Option Int) : EqOk (pd o) := by cases o; exact eqOk_non; exact eqOk_int _
theorem noDicts_map {α : Type} {f : α → PyData} : ∀ {xs : List α}, (∀ x, noDict (f x) = true) → noDicts (xs.map f) = true
  | [], _ => rfl
  | x :: xs, h => by simp [noDicts, h x, noDicts_map (xs := xs) h]
theorem nd_pd (o : Option Int) : noDict (pd o) = true := by cases o <;> rfl
theorem eqOk_row (xs : Row) : EqOk (rowD xs) := ⟨by simp only [noDict]; exact noDicts_map nd_pd, shapedT xs⟩
theorem eqOk_lrow (xs : Row) : EqOk (.list (xs.map pd)) := ⟨by simp only [noDict]; exact noDicts_map nd_pd, shapedL xs⟩
theorem eqvAll_pd : ∀ xs ys : Row, PyData.eqvAll (xs.map pd) (ys.map pd) = decide (xs = ys)
  | [], [] => rfl
  | [], y :: ys => rfl
  | x :: xs, [] => rfl
  | x :: xs, y :: ys => by
    rw [List.map_cons, List.map_cons, PyData.eqvAll, eqvAll_pd xs ys, eqv_pd]
    by_cases h1 : x = y <;> by_cases h2 : xs = ys <;> simp [h1, h2]
theorem eqv_rowD (xs ys : Row) : PyData.eqv (rowD xs) (rowD ys) = decide (xs = ys) := eqvAll_pd xs ys
/-- enumerate, zip of mapped lists -/
theorem enumD_map {α : Type} (f : α → PyData) : ∀ (k : Nat) (xs : List α), enumD k (xs.map f) = (xs.zipIdx k).map fun p => .tuple [.int (p.2 : Nat), f p.1]
  | _, [] => rfl
  | k, x :: xs => by simp [enumD, enumD_map f (k + 1) xs, List.zipIdx_cons]
theorem zipD_map {α β : Type} (f : α → PyData) (g : β → PyData) (xs : List α) (ys : List β) : zipD (xs.map f) (ys.map g) = (xs.zip ys).map fun p => .tuple [f p.1, g p.2] := by
  unfold zipD
  rw [List.zipWith_map]
  rw [List.zip_eq_zipWith, List.map_zipWith]
/-- a comprehension whose turns are known -/
theorem lcGo_iff {α : Type} {g : AG} {t : AT} {te : AE} {env : AEnv} {Q : List PyData → Prop} {d : α → PyData} (out : α → Option PyData) : ∀ (items : List α) (acc : List PyData),
    (∀ x, x ∈ items → ∀ R : Option PyData → Prop, (g (d x) env (fun env1 => t env1 (fun b => (b = true → te env1 (fun r => onV r fun q => R (some q)) (fun _ => False)) ∧ (b = false → R none)) (fun _ => False)) ↔ R (out x))) →
    (lcGo g t te env Q (items.map d) acc ↔ Q (acc ++ items.filterMap out))
  | [], acc, _ => by simp [lcGo]
  | x :: xs, acc, h => by
    have h1 := h x (List.mem_cons_self ..) fun o => match o with
      | some q => lcGo g t te env Q (xs.map d) (acc ++ [q])
      | none => lcGo g t te env Q (xs.map d) acc
    rw [List.map_cons]
    unfold lcGo
    refine h1.trans ?_
    have ih := fun acc => lcGo_iff out xs acc (g := g) (t := t) (te := te) (env := env) (Q := Q) fun y hy => h y (List.mem_cons_of_mem _ hy)
    cases e : out x with
    | none => simp only [List.filterMap_cons, e]; exact ih acc
    | some q => simp only [List.filterMap_cons, e]; rw [ih]; simp
theorem fm_if {α β : Type} (p : α → Bool) (f : α → β) : ∀ l : List α, l.filterMap (fun x => if p x = true then some (f x) else none) = (l.filter p).map f
  | [] => rfl
  | a :: l => by
    have ih := fm_if p f l
    cases h : p a <;> simp [h, ih]
theorem lcGo_keep {α : Type} {g : AG} {t : AT} {te : AE} {env : AEnv} {Q : List PyData → Prop} {d : α → PyData} (p : α → Bool) (f : α → PyData) (items : List α) (acc : List PyData)
    (h : ∀ x, x ∈ items → ∀ R : Option PyData → Prop, (g (d x) env (fun env1 => t env1 (fun b => (b = true → te env1 (fun r => onV r fun q => R (some q)) (fun _ => False)) ∧ (b = false → R none)) (fun _ => False)) ↔ R (if p x = true then some (f x) else none))) :
    lcGo g t te env Q (items.map d) acc ↔ Q (acc ++ (items.filter p).map f) := by
  rw [lcGo_iff (fun x => if p x = true then some (f x) else none) items acc h, fm_if]
theorem lcGo_map {α : Type} {g : AG} {te : AE} {env : AEnv} {Q : List PyData → Prop} {d : α → PyData} (f : α → PyData) (items : List α) (acc : List PyData)
    (h : ∀ x, x ∈ items → ∀ R : PyData → Prop, (g (d x) env (fun env1 => te env1 (fun r => onV r R) (fun _ => False)) ↔ R (f x))) :
    lcGo g aYes te env Q (items.map d) acc ↔ Q (acc ++ items.map f) := by
  rw [lcGo_keep (fun _ => true) f items acc fun x hx R => ?_]
  · rw [List.filter_eq_self.mpr (fun _ _ => rfl)]
  · have := h x hx fun q => R (some q)
    simpa only [aYes, true_implies, forall_const, reduceCtorEq, false_implies, and_true, if_true] using this
/-- a comprehension whose turns leave things open: each item has Pr -/
theorem lcGo_all {g : AG} {te : AE} {env : AEnv} {Q : List PyData → Prop} (Pr : PyData → PyData → Prop) : ∀ (items acc : List PyData),
    (∀ x, x ∈ items → ∀ R : PyData → Prop, (∀ q, Pr x q → R q) → g x env (fun env1 => te env1 (fun r => onV r R) (fun _ => False))) →
    (∀ out, Paired Pr items out → Q (acc ++ out)) → lcGo g aYes te env Q items acc
  | [], acc, _, k => by
    unfold lcGo
    have := k [] .nil
    rwa [List.append_nil] at this
  | x :: xs, acc, h, k => by
    unfold lcGo
    have h1 := h x (List.mem_cons_self ..) (fun q => lcGo g aYes te env Q xs (acc ++ [q])) fun q hq => lcGo_all Pr xs (acc ++ [q]) (fun y hy => h y (List.mem_cons_of_mem _ hy)) fun out hout => by
      have := k (q :: out) (.cons hq hout)
      simpa using this
    simpa only [aYes, true_implies, forall_const, reduceCtorEq, false_implies, and_true] using h1
theorem pd_inj {a b : Option Int} (h : pd a = pd b) : a = b := by
  cases a <;> cases b <;> simp [pd] at h ⊢
  exact h
theorem inD_nats (n : Nat) (ns : List Nat) : inD (.int n) (ns.map fun k : Nat => .int (k : Nat)) = decide (n ∈ ns) := by
  unfold inD inV
  induction ns with
  | nil => rfl
  | cons k ns ih =>
    rw [List.map_cons, List.map_cons, List.any_cons, ih]
    show (eqV (.int (k : Nat)) (.int (n : Nat)) || _) = _
    by_cases h : k = n
    · subst h; simp [eqV]
    · have h2 : ¬ n = k := fun e => h e.symm
      have h3 : ((k : Int) == (n : Int)) = false := beq_eq_false_iff_ne.mpr (by omega)
      simp [eqV, h, h2, h3]
theorem flat_nats (ns : List Nat) : (ns.map fun k : Nat => PyData.int (k : Nat)).all flatD = true := by
  induction ns with
  | nil => rfl
  | cons k ns ih => rw [List.map_cons, List.all_cons, ih]; rfl
theorem ix_of {qs : List PyData} {i : Int} {q : PyData} (h : atI qs i = some q) {Q : PyData → Prop} : (∃ r, atI qs i = some r ∧ Q r) ↔ Q q := by
  rw [h]
  exact ⟨fun ⟨r, e, k⟩ => (Option.some.inj e) ▸ k, fun k => ⟨q, rfl, k⟩⟩
theorem atI_map {α : Type} {f : α → PyData} {xs : List α} {n : Nat} {a : α} (h : xs[n]? = some a) : atI (xs.map f) (n : Int) = some (f a) := atI_nat (by rw [List.getElem?_map, h]; rfl)
theorem fIx_tup {α : Type} {f : α → PyData} {xs : List α} {n : Nat} {a : α} (h : xs[n]? = some a) {Q : AK} : fIx (.v (.tuple (xs.map f))) (.v (.int (n : Nat))) Q ↔ Q (.v (f a)) := ix_of (atI_map h) (Q := fun q => Q (.v q))
theorem fIx_lst {α : Type} {f : α → PyData} {xs : List α} {n : Nat} {a : α} (h : xs[n]? = some a) {Q : AK} : fIx (.v (.list (xs.map f))) (.v (.int (n : Nat))) Q ↔ Q (.v (f a)) := ix_of (atI_map h) (Q := fun q => Q (.v q))
theorem fEq_pd {a b : Option Int} {Q : AK} : fEq false (.v (pd a)) (.v (pd b)) Q ↔ Q (.v (.bool (decide (a = b)))) := by
  unfold fEq
  have h : EqOk2 (pd a) (pd b) := .inl ⟨eqOk_pd a, eqOk_pd b⟩
  simp only [h, true_and, eqv_pd, Bool.false_eq_true, if_false]
theorem fEq_int {a b : Int} {Q : AK} : fEq false (.v (.int a)) (.v (.int b)) Q ↔ Q (.v (.bool (decide (a = b)))) := by
  have := fEq_pd (a := some a) (b := some b) (Q := Q)
  simpa [pds] using this
theorem fNe_int {a b : Int} {Q : AK} : fEq true (.v (.int a)) (.v (.int b)) Q ↔ Q (.v (.bool (!decide (a = b)))) := by
  unfold fEq
  have h : EqOk2 (.int a) (.int b) := .inl ⟨eqOk_int a, eqOk_int b⟩
  simp only [h, true_and, if_true]
  have := eqv_pd (some a) (some b)
  simp only [pds, Option.some.injEq] at this
  rw [this]
theorem fEq_row {a b : Row} {Q : AK} : fEq false (.v (rowD a)) (.v (rowD b)) Q ↔ Q (.v (.bool (decide (a = b)))) := by
  unfold fEq
  have h : EqOk2 (rowD a) (rowD b) := .inl ⟨eqOk_row a, eqOk_row b⟩
  simp only [h, true_and, eqv_rowD, Bool.false_eq_true, if_false]
theorem fNe_row {a b : Row} {Q : AK} : fEq true (.v (rowD a)) (.v (rowD b)) Q ↔ Q (.v (.bool (!decide (a = b)))) := by
  unfold fEq
  have h : EqOk2 (rowD a) (rowD b) := .inl ⟨eqOk_row a, eqOk_row b⟩
  simp only [h, true_and, eqv_rowD, if_true]
theorem fNotIn_nats {n : Nat} {ns : List Nat} {Q : AK} : fIn true (.v (.int (n : Nat))) (.v (natsL ns)) Q ↔ Q (.v (.bool (!decide (n ∈ ns)))) := by
  unfold fIn
  simp only [itemsA]
  rw [inD_nats]
  simp [flatD, flat_nats]
theorem fIx0 {a b : PyData} {Q : AK} : fIx (.v (.tuple [a, b])) (.v (.int 0)) Q ↔ Q (.v a) := ix_of (Q := fun q => Q (.v q)) rfl
theorem fIx1 {a b : PyData} {Q : AK} : fIx (.v (.tuple [a, b])) (.v (.int 1)) Q ↔ Q (.v b) := ix_of (Q := fun q => Q (.v q)) rfl
theorem fIxl0 {a b : PyData} {Q : AK} : fIx (.v (.list [a, b])) (.v (.int 0)) Q ↔ Q (.v a) := ix_of (Q := fun q => Q (.v q)) rfl
theorem fIxl1 {a b : PyData} {Q : AK} : fIx (.v (.list [a, b])) (.v (.int 1)) Q ↔ Q (.v b) := ix_of (Q := fun q => Q (.v q)) rfl
theorem fEq_str {a b : Str} {Q : AK} : fEq false (.v (.str a)) (.v (.str b)) Q ↔ Q (.v (.bool (a == b))) := by
  unfold fEq
  have h : EqOk2 (.str a) (.str b) := .inr ⟨a, b, rfl, rfl⟩
  simp only [h, true_and, Bool.false_eq_true, if_false, PyData.eqv]
theorem fNe_str {a b : Str} {Q : AK} : fEq true (.v (.str a)) (.v (.str b)) Q ↔ Q (.v (.bool (!(a == b)))) := by
  unfold fEq
  have h : EqOk2 (.str a) (.str b) := .inr ⟨a, b, rfl, rfl⟩
  simp only [h, true_and, if_true, PyData.eqv]
/-! ### what is shown -/
mutual
def szw : PyData → Nat
  | .none | .bool _ => 6
  | .int _ => 13000
  | .str x => (reprText x).length + 6
  | .list qs | .tuple qs => 6 + szws qs
  | .dict _ => 0
def szws : List PyData → Nat
  | [] => 0
  | q :: qs => szw q + 6 + szws qs
end
mutual
theorem szw_shown : ∀ q : PyData, wide q = true → noDict q = true → q.shown.length ≤ szw q
  | .none, _, _ => by simp only [PyData.shown, szw]; decide
  | .bool b, _, _ => by cases b <;> simp only [PyData.shown, szw] <;> decide
  | .int i, h, _ => by
    have := int_text_length_le (k := 12900) (by decide) (by simpa [wide] using h)
    simp only [PyData.shown, szw]
    show (Str.ofString (toString i)).length ≤ 13000
    rw [ofString_length]
    omega
  | .str x, _, _ => by simp only [PyData.shown, szw]; omega
  | .list qs, h, n => by
    have h1 := szws_shown qs (by simpa [wide] using h) (by simpa [noDict] using n)
    have := listText_len_le (PyData.shownAll qs)
    simp only [PyData.shown, szw]
    omega
  | .tuple qs, h, n => by
    have h1 := szws_shown qs (by simpa [wide] using h) (by simpa [noDict] using n)
    have := tupleText_len_le (PyData.shownAll qs)
    simp only [PyData.shown, szw]
    omega
  | .dict kvs, _, n => by simp [noDict] at n
theorem szws_shown : ∀ qs : List PyData, wideAll qs = true → noDicts qs = true → ((PyData.shownAll qs).map (·.length)).sum + 2 * (PyData.shownAll qs).length ≤ szws qs
  | [], _, _ => by simp [PyData.shownAll, szws]
  | q :: qs, h, n => by
    simp only [wideAll, Bool.and_eq_true] at h
    simp only [noDicts, Bool.and_eq_true] at n
    have h1 := szw_shown q h.1 n.1
    have h2 := szws_shown qs h.2 n.2
    simp only [PyData.shownAll, List.map_cons, List.sum_cons, List.length_cons, szws]
    omega
end
/-- what may be shown: its size and its depth -/
structure Shw (b t : Nat) (q : PyData) : Prop where
  wd : wide q = true
  nd : noDict q = true
  sz : szw q ≤ b
  dp : q.depth ≤ t
theorem Shw.mono {b t b2 t2 : Nat} {q : PyData} (h : Shw b t q) (hb : b ≤ b2) (ht : t ≤ t2) : Shw b2 t2 q := ⟨h.wd, h.nd, Nat.le_trans h.sz hb, Nat.le_trans h.dp ht⟩
theorem shOk_of {b t : Nat} {q : PyData} (h : Shw b t q) (hb : b ≤ 16000000) (ht : t ≤ 50) (hq : ∃ qs, q = .list qs ∨ q = .tuple qs) : ShOk q :=
  .inr ⟨hq, h.nd, h.wd, by have := szw_shown q h.wd h.nd; have := h.sz; rw [sizeLine_eq]; omega, Nat.le_trans h.dp ht⟩
theorem shw_int {i : Int} (h : i.natAbs < 2 ^ 12900) : Shw 13000 0 (.int i) := ⟨by simp only [wide, decide_eq_true_eq]; exact PySem.Flt.log2_lt_of (by decide) h, rfl, by simp only [szw]; omega, by simp only [PyData.depth]; omega⟩
theorem shw_non : Shw 13000 0 .none := ⟨rfl, rfl, by simp only [szw]; omega, by simp only [PyData.depth]; omega⟩
theorem shw_bool (c : Bool) : Shw 13000 0 (.bool c) := ⟨rfl, rfl, by simp only [szw]; omega, by simp only [PyData.depth]; omega⟩
theorem shws {b t : Nat} : ∀ {qs : List PyData}, (∀ q ∈ qs, Shw b t q) → wideAll qs = true ∧ noDicts qs = true ∧ szws qs ≤ qs.length * (b + 6) ∧ PyData.depthAll qs ≤ t
  | [], _ => ⟨rfl, rfl, by simp [szws], by simp [PyData.depthAll]⟩
  | q :: qs, h => by
    have h1 := h q (List.mem_cons_self ..)
    obtain ⟨h2, h3, h4, h5⟩ := shws (qs := qs) fun z hz => h z (List.mem_cons_of_mem _ hz)
    refine ⟨by simp [wideAll, h1.wd, h2], by simp [noDicts, h1.nd, h3], ?_, ?_⟩
    · have := h1.sz
      simp only [szws, List.length_cons, Nat.succ_mul]; omega
    · simp only [PyData.depthAll]; exact Nat.max_le.mpr ⟨h1.dp, h5⟩
theorem shw_list {b t n : Nat} {qs : List PyData} (h : ∀ q ∈ qs, Shw b t q) (hn : qs.length ≤ n) : Shw (n * (b + 6) + 6) (t + 1) (.list qs) := by
  obtain ⟨h2, h3, h4, h5⟩ := shws h
  exact ⟨by simpa [wide] using h2, by simpa [noDict] using h3, by simp only [szw]; have := Nat.mul_le_mul_right (b + 6) hn; omega, by simp only [PyData.depth]; omega⟩
theorem shw_tup {b t n : Nat} {qs : List PyData} (h : ∀ q ∈ qs, Shw b t q) (hn : qs.length ≤ n) : Shw (n * (b + 6) + 6) (t + 1) (.tuple qs) := by
  obtain ⟨h2, h3, h4, h5⟩ := shws h
  exact ⟨by simpa [wide] using h2, by simpa [noDict] using h3, by simp only [szw]; have := Nat.mul_le_mul_right (b + 6) hn; omega, by simp only [PyData.depth]; omega⟩
/-- numbers of up to 840 figures and some -/
def BN : Nat := 10 ^ 840
theorem BN_big : 100000000 * BN < 2 ^ 12900 := by unfold BN; decide +kernel
theorem BN_pos : 10000000000 ≤ BN := by unfold BN; decide +kernel
theorem bigB_of {i : Int} (h : i.natAbs < 2 ^ 12900) : BigB i := Nat.lt_of_lt_of_le h (Nat.pow_le_pow_right (by decide) (by decide))
theorem bigB_bn {i : Int} (h : i.natAbs ≤ 100000000 * BN) : BigB i := bigB_of (Nat.lt_of_le_of_lt h BN_big)
/-- a row of numbers that are so great -/
def BR (c : Nat) (xs : Row) : Prop := ∀ i : Int, some i ∈ xs → i.natAbs ≤ c * BN
theorem BR.mono {c c2 : Nat} {xs : Row} (h : BR c xs) (hc : c ≤ c2) : BR c2 xs := fun i hi => Nat.le_trans (h i hi) (Nat.mul_le_mul_right _ hc)
theorem shw_pd {c : Nat} {o : Option Int} (h : ∀ i, o = some i → i.natAbs ≤ c * BN) (hc : c ≤ 100000000) : Shw 13000 0 (pd o) := by
  cases o with
  | none => exact shw_non
  | some i => exact shw_int (Nat.lt_of_le_of_lt (Nat.le_trans (h i rfl) (Nat.mul_le_mul_right _ hc)) BN_big)
theorem shw_row {c n : Nat} {xs : Row} (h : BR c xs) (hc : c ≤ 100000000) (hn : xs.length ≤ n) : Shw (n * 13006 + 6) 1 (rowD xs) :=
  shw_tup (n := n) (fun q hq => by
    obtain ⟨o, ho, rfl⟩ := List.mem_map.mp hq
    exact shw_pd (fun i e => h i (e ▸ ho)) hc) (by simpa using hn)
theorem shw_rows {c n k : Nat} {L : List Row} (h : ∀ r ∈ L, BR c r ∧ r.length ≤ n) (hc : c ≤ 100000000) (hk : L.length ≤ k) : Shw (k * (n * 13006 + 6 + 6) + 6) 2 (rowsD L) :=
  shw_tup (n := k) (fun q hq => by
    obtain ⟨r, hr, rfl⟩ := List.mem_map.mp hq
    exact shw_row (h r hr).1 hc (h r hr).2) (by simpa using hk)
/-- repr -/
theorem fRepr_of {q : PyData} {Q : AK} (h : ShOk q) : fRepr [.v q] Q ↔ Q (.v (.str q.shown)) := by
  unfold fRepr
  simp only [h, true_and]
theorem sm_bool (c : Bool) : ShOk (.bool c) := .inl ⟨rfl, by simp only [sz]; omega, by simp only [PyData.depth]; omega⟩
/-! texts whose signs are signs -/
def Small (x : Str) : Prop := ∀ c ∈ x.cps.toList, c < 16 ^ 8
theorem small_lit (s : String) : Small (Str.ofString s) := fun c hc => by
  rw [Str.ofString_eq_toList] at hc
  simp only [List.mem_map] at hc
  obtain ⟨ch, _, rfl⟩ := hc
  have h := ch.valid
  rcases h with h | h
  · show ch.val.toNat < _
    omega
  · show ch.val.toNat < _
    have := h.2
    omega
theorem small_app {x y : Str} (h : Small x) (k : Small y) : Small (x ++ y) := fun c hc => by
  have : (x ++ y).cps.toList = x.cps.toList ++ y.cps.toList := by
    show (x.cps ++ y.cps).toList = _
    simp
  rw [this] at hc
  rcases List.mem_append.mp hc with h1 | h1
  · exact h c h1
  · exact k c h1
theorem small_from : ∀ (ts : List Str) (k : Nat) (acc : Str), Small acc → (∀ t ∈ ts, Small t) → Small (textFrom k acc ts)
  | [], _, _, h, _ => h
  | t :: ts, k, acc, h, hs => by
    unfold textFrom
    refine small_from ts (k + 1) _ (small_app (small_app h ?_) (hs t (List.mem_cons_self ..))) fun z hz => hs z (List.mem_cons_of_mem _ hz)
    split <;> exact small_lit _
theorem small_join (sep : Str) (hsep : Small sep) : ∀ ts : List Str, (∀ t ∈ ts, Small t) → Small (Str.join sep ts)
  | [], _ => small_lit ""
  | [x], h => h x (List.mem_cons_self ..)
  | x :: y :: r, h => small_app (small_app (h x (List.mem_cons_self ..)) hsep) (small_join sep hsep (y :: r) fun z hz => h z (List.mem_cons_of_mem _ hz))
mutual
def noStr : PyData → Bool
  | .str _ => false
  | .dict _ => false
  | .list qs | .tuple qs => noStrs qs
  | _ => true
def noStrs : List PyData → Bool
  | [] => true
  | q :: r => noStr q && noStrs r
end
mutual
theorem small_shown : ∀ q : PyData, noStr q = true → Small q.shown
  | .none, _ => by simp only [PyData.shown]; exact small_lit _
  | .bool b, _ => by simp only [PyData.shown]; split <;> exact small_lit _
  | .int i, _ => by simp only [PyData.shown]; exact small_lit _
  | .str x, h => by simp [noStr] at h
  | .list qs, h => by
    simp only [PyData.shown]
    exact small_app (small_from _ 0 _ (small_lit _) (smalls_shown qs (by simpa [noStr] using h))) (small_lit _)
  | .tuple qs, h => by
    simp only [PyData.shown]
    refine small_app (small_app (small_lit _) (small_join _ (small_lit _) _ (smalls_shown qs (by simpa [noStr] using h)))) ?_
    split <;> exact small_lit _
  | .dict _, h => by simp [noStr] at h
theorem smalls_shown : ∀ qs : List PyData, noStrs qs = true → ∀ t ∈ PyData.shownAll qs, Small t
  | [], _, t, h => by simp [PyData.shownAll] at h
  | q :: qs, h, t, ht => by
    simp only [noStrs, Bool.and_eq_true] at h
    simp only [PyData.shownAll] at ht
    rcases List.mem_cons.mp ht with rfl | ht
    · exact small_shown q h.1
    · exact smalls_shown qs h.2 t ht
end
theorem noStrs_map {α : Type} {f : α → PyData} : ∀ {xs : List α}, (∀ x, noStr (f x) = true) → noStrs (xs.map f) = true
  | [], _ => rfl
  | x :: xs, h => by simp [noStrs, h x, noStrs_map (xs := xs) h]
theorem ns_pd (o : Option Int) : noStr (pd o) = true := by cases o <;> rfl
theorem ns_row (xs : Row) : noStr (rowD xs) = true := by simp only [noStr]; exact noStrs_map ns_pd
theorem ns_rows (L : List Row) : noStr (rowsD L) = true := by simp only [noStr]; exact noStrs_map ns_row
/-- a shown text within what is shown -/
theorem shw_text {b t : Nat} {q : PyData} (h : Shw b t q) (hs : noStr q = true) : Shw (10 * b + 8) 0 (.str q.shown) := by
  have h1 := StrLaws.reprText_len q.shown (small_shown q hs)
  have h2 := szw_shown q h.wd h.nd
  have h3 := h.sz
  exact ⟨rfl, rfl, by simp only [szw]; omega, by simp only [PyData.depth]; omega⟩
theorem cutD_lo {qs : List PyData} (j : Nat) : cutD qs none (some (j : Int)) = qs.take j := by
  unfold cutD
  rw [HT.sIx_none, HT.sIx_nat, List.drop_zero, Nat.sub_zero]
  by_cases h : j ≤ qs.length
  · rw [Nat.min_eq_left h]
  · rw [Nat.min_eq_right (by omega), List.take_length, List.take_of_length_le (by omega)]
theorem cutD_hi {qs : List PyData} (j : Nat) : cutD qs (some (j : Int)) none = qs.drop j := by
  unfold cutD
  rw [HT.sIx_none, HT.sIx_nat]
  by_cases h : j ≤ qs.length
  · rw [Nat.min_eq_left h]
    exact List.take_of_length_le (by rw [List.length_drop]; exact Nat.le_refl _)
  · rw [Nat.min_eq_right (by omega), List.drop_of_length_le (by omega : qs.length ≤ j)]
    simp
end AL

namespace K8
open PySem L2 RW RZ PySem.RW U AL
def top (i : Nat) : Stmt := PySem.Challenge.pw_ridgespans_k08_rows_in_spans.main.body.getD i (.Pass ⟨0, 0, 0, 0⟩)
abbrev s_ask_as_many : Stmt := top 4
abbrev s_is_in : Stmt := top 6
abbrev s_greatest_shift : Stmt := top 7
abbrev s_integer_places : Stmt := top 8
abbrev s_touched : Stmt := top 9
abbrev s_is_made_of : Stmt := top 10
abbrev sUrn : Stmt := top 12
abbrev sTake : Stmt := top 13
abbrev s_law_one : Stmt := top 14
abbrev s_law_whole : Stmt := top 15
abbrev s_law_row_of : Stmt := top 16
abbrev s_law_plus : Stmt := top 17
abbrev s_law_more : Stmt := top 18
abbrev s_law_made : Stmt := top 19
abbrev s_law_near : Stmt := top 20
abbrev s_law_reaches : Stmt := top 21
abbrev s_law_is_made : Stmt := top 22
abbrev s_law_is_right : Stmt := top 23
abbrev s_law_of_two : Stmt := top 24
abbrev s_law_of_many : Stmt := top 25
abbrev s_law_is_unfit : Stmt := top 26
abbrev s_law : Stmt := top 27
abbrev cs_Unfit : List (Str × Bool) := [("Unfit", true)]
section
variable {P : Program} {w : World} {K : PySem.W.Frag} {mg : Str → Option Value} {base : Heap}
theorem scTake : FnScope ["urn", "size", "rest", "step", "cell", "blend"] ["urn", "size"] (defScope sTake) := ⟨rfl, rfl, rfl, by decide +kernel, rfl, by decide +kernel, by decide +kernel⟩
theorem ok_take {f : Addr} {fd : FuncData} (F : Fun K "_law_take" "_law_take" sTake f fd) (B : Bl mg) : FnOk P w K mg base CX0 1 f fd ["urn", "size"] spTake := by
  refine F.ok scTake (fun vs H Q E h => ?_) (fun cdv A outer s H vs Q E hr h => ?_)
  · obtain ⟨u, d, m, z, rfl, _⟩ := h
    rfl
  · obtain ⟨u, d, m, z, rfl, z0, z1, U, k⟩ := h
    have hu : (A.deeper (PyProof.Rows.envOfC "_law_take" (defScope sTake) s.heap.objs.size f cdv)).units + 64 < cLine := by have := hr.un; omega
    obtain ⟨⟨ds, ms, sm, n, h1, h2, h3, h4⟩, hdm⟩ := id U
    have nud : u ≠ d := lst_ne h1 h2
    have num : u ≠ m := lst_ne h1 h3
    refine ⟨_, pss_cons (ps_if (pt_cmpR (op_neD hu) (pe_ix ix_list (pv 0) pe_int (fun _ _ => rfl)) (pe_lst pa_nil) (nomark _))
        (pss_cons (ps_set (i := 2) scTake.nd rfl (Or.inl rfl) (pe_ix ix_list (pe_ix ix_list (pv 0) pe_int (fun _ _ => rfl)) pe_int (fun _ _ => rfl)))
        (pss_cons (ps_asg (pe_op op_fdivN (pv 2) (pv 1)) (pg_sub (pe_ix ix_list (pv 0) pe_int (fun _ _ => rfl)) pe_int set_list))
        (pss_cons (ps_if (pt_cmpR op_lt (pv 2) (pv 1) (nomark _)) (pss_one (ps_expr (pe_bm PySem.F.plainAttrs_list PySem.F.slot_list_pop PySem.F.type_list_pop mt_popAt (pe_ix ix_list (pv 0) pe_int (fun _ _ => rfl)) (pa_cons pe_int pa_nil)))) pss_nil)
        (pss_one (ps_ret (pe_op op_modN (pe_callTy call_int1 (by rfl) B.int_ (by decide +kernel) (pa_cons (pv 2) pa_nil)) (pv 1))))))) pss_nil)
      (pss_cons (ps_asg (pe_op op_add (pe_ix ix_list (pv 0) pe_int (fun _ _ => rfl)) pe_int) (pg_sub (pv 0) pe_int set_list))
      (pss_cons (ps_set (i := 3) scTake.nd rfl (Or.inl rfl) (pe_ix ix_list (pv 0) pe_int (fun _ _ => rfl)))
      (pss_cons (ps_set (i := 4) scTake.nd rfl (Or.inl rfl) (pe_ix ix_list (pe_ix ix_list (pv 0) pe_int (fun _ _ => rfl)) (pe_op op_modN (pe_callTy call_int1 (by rfl) B.int_ (by decide +kernel) (pa_cons (pv 3) pa_nil)) (pe_callB call_len_seq (by rfl) B.len PySem.boot_len (pa_cons (pe_ix ix_list (pv 0) pe_int (fun _ _ => rfl)) pa_nil))) (fun _ _ => rfl)))
      (pss_cons (ps_set (i := 5) scTake.nd rfl (Or.inl rfl) (pe_op op_add (pe_op op_add (pe_op op_mul (pv 4) pe_int) (pe_op op_mul (pe_ix ix_list (pv 0) pe_int (fun _ _ => rfl)) pe_int)) (pe_op op_mul (pv 3) pe_int)))
      (pss_cons (ps_set (i := 5) scTake.nd rfl (Or.inl rfl) (pe_op op_modN (pe_callTy call_int1 (by rfl) B.int_ (by decide +kernel) (pa_cons (pv 5) pa_nil)) pe_int))
      (pss_cons (ps_set (i := 5) scTake.nd rfl (Or.inl rfl) (pe_op op_modN (pe_callTy call_int1 (by rfl) B.int_ (by decide +kernel) (pa_cons (pe_op op_add (pe_op op_add (pe_op op_mul (pv 5) (pv 5)) (pe_op op_mul (pv 3) pe_int)) pe_int) pa_nil)) pe_int))
      (pss_one (ps_ret (pe_op op_modN (pe_op op_fdivN (pe_op op_modN (pe_callTy call_int1 (by rfl) B.int_ (by decide +kernel) (pa_cons (pe_op op_add (pe_op op_mul (pv 5) (pv 5)) (pe_op op_mul pe_int (pv 5))) pa_nil)) pe_int) pe_int) (pv 1)))))))))), ?_⟩
    refine ⟨_, rfl, u, _, _, _, rfl, rfl, SqL.of h1, atI_nat (j := 0) rfl, (by show 0 ≤ sizeLine; decide), fun p hp => ?_⟩
    have S1 : Same H (upd H p (.lst [])) := Same.fresh (Same.refl _) hp
    have U1 := U.same S1
    refine ⟨.list (ds.map .int), .list [], .lst (SqL.of (S1 _ _ h2)) (dpI ds), .lst (SqL.of upd_same) .nil, shapedI ds, shapedI [], _, rfl, ?_⟩
    cases ds with
    | cons r0 ds =>
      refine iteT ?_
      generalize upd H p (.lst []) = G at S1 U1
      have g1 := S1 _ _ h1
      have g2 := S1 _ _ h2
      have g3 := S1 _ _ h3
      refine ⟨_, rfl, u, _, _, _, rfl, rfl, SqL.of g1, atI_nat (j := 0) rfl, d, _, _, _, rfl, rfl, SqL.of g2, atI_nat (j := 0) rfl, ?_⟩
      refine ⟨_, rfl, _, rfl, r0, z, rfl, rfl, ⟨by omega, by omega⟩, _, rfl, u, _, _, _, rfl, rfl, SqL.of g1, atI_nat (j := 0) rfl, d, _, _, 0, rfl, rfl, g2, ix0 (by simp), ?_⟩
      have e1 : ((V.int r0 :: ds.map V.int).set 0 (.int (r0.fdiv z))) = ((r0.fdiv z) :: ds).map V.int := rfl
      have i1 : upd G d (.lst ((V.int r0 :: ds.map V.int).set 0 (.int (r0.fdiv z)))) u = some (.lst [.ref d, .ref m, .int sm, .int n]) := by rw [upd_ne nud]; exact g1
      have i3 : upd G d (.lst ((V.int r0 :: ds.map V.int).set 0 (.int (r0.fdiv z)))) m = some (.lst (ms.map V.int)) := by rw [upd_ne hdm.symm]; exact g3
      have fin : ∀ (ds' : List Int) (H' : Hp), H' u = some (.lst [.ref d, .ref m, .int sm, .int n]) → H' d = some (.lst (ds'.map V.int)) → H' m = some (.lst (ms.map V.int)) → Off u d G H' → Q (.int (r0.fmod z)) H' := fun ds' H' a1 a2 a3 O => by
        refine k H' _ ?_ ?_ ⟨⟨ds', ms, sm, n, a1, a2, a3, h4⟩, hdm⟩ ((Same.off S1).trans O)
        · rw [Int.fmod_eq_emod_of_nonneg _ (by omega)]; exact Int.emod_nonneg _ (by omega)
        · rw [Int.fmod_eq_emod_of_nonneg _ (by omega)]; exact Int.emod_lt_of_pos _ (by omega)
      refine ⟨_, rfl, _, rfl, _, _, rfl, rfl, _, rfl, ?_⟩
      refine ite2 (fun _ => ?_) (fun _ => ?_)
      · refine ⟨_, rfl, u, _, _, _, rfl, rfl, SqL.of i1, atI_nat (j := 0) rfl, .inl ⟨rfl, _, SqL.of upd_same⟩, d, _, 0, 0, _, rfl, rfl, upd_same, by decide, by decide, sx0 (by simp), rfl, ?_⟩
        refine ⟨_, rfl, .inl ⟨_, rfl, _, rfl, _, _, rfl, rfl, (by omega), ?_⟩⟩
        refine fin ds _ ?_ ?_ ?_ ?_
        · rw [upd_ne nud]; exact i1
        · rw [upd_same]; rfl
        · rw [upd_ne hdm.symm]; exact i3
        · intro b o n1 n2 e
          rw [upd_ne n2, upd_ne n2]
          exact e
      · refine ⟨_, rfl, .inl ⟨_, rfl, _, rfl, _, _, rfl, rfl, (by omega), ?_⟩⟩
        refine fin (r0.fdiv z :: ds) _ i1 ?_ i3 ?_
        · rw [upd_same]; rfl
        · intro b o n1 n2 e
          rw [upd_ne n2]
          exact e
    | nil =>
      refine iteF ?_
      generalize upd H p (.lst []) = G at S1 U1
      have g1 := S1 _ _ h1
      have g2 := S1 _ _ h2
      have g3 := S1 _ _ h3
      refine ⟨_, rfl, u, _, _, _, rfl, rfl, SqL.of g1, atI_nat (j := 3) rfl, _, _, rfl, rfl, _, rfl, u, _, _, 3, rfl, rfl, g1, rfl, ?_⟩
      have i1 : upd G u (.lst ([V.ref d, .ref m, .int sm, .int n].set 3 (.int (n + 1)))) u = some (.lst [.ref d, .ref m, .int sm, .int (n + 1)]) := upd_same
      have i3 : upd G u (.lst ([V.ref d, .ref m, .int sm, .int n].set 3 (.int (n + 1)))) m = some (.lst (ms.map V.int)) := by rw [upd_ne num.symm]; exact g3
      have i2 : upd G u (.lst ([V.ref d, .ref m, .int sm, .int n].set 3 (.int (n + 1)))) d = some (.lst ((([] : List Int)).map V.int)) := by rw [upd_ne nud.symm]; exact g2
      have O : Off u d G (upd G u (.lst ([V.ref d, .ref m, .int sm, .int n].set 3 (.int (n + 1))))) := fun b o n1 n2 e => by rw [upd_ne n1]; exact e
      generalize upd G u (.lst ([V.ref d, .ref m, .int sm, .int n].set 3 (.int (n + 1)))) = G2 at i1 i2 i3 O
      have fin : ∀ r, 0 ≤ r → r < z → Q (.int r) G2 := fun r a b => k G2 r a b ⟨⟨[], ms, sm, n + 1, i1, i2, i3, h4⟩, hdm⟩ ((Same.off S1).trans O)
      refine ⟨_, rfl, u, _, _, _, rfl, rfl, SqL.of i1, atI_nat (j := 3) rfl, ?_⟩
      have hlen : 0 < (ms.map V.int).length := by rw [List.length_map]; exact List.length_pos_iff.mpr h4
      obtain ⟨j, hj, ej⟩ := fmod_ix (a := n + 1) hlen
      have hj2 : j < ms.length := by rw [List.length_map] at hj; exact hj
      refine ⟨_, rfl, u, _, _, _, rfl, rfl, SqL.of i1, atI_nat (j := 1) rfl, _, rfl, .inl ⟨_, rfl, _, rfl, u, _, _, _, rfl, rfl, SqL.of i1, atI_nat (j := 1) rfl, m, _, rfl, .inl (SqL.of i3), _, _, rfl, rfl, (by omega), ?_⟩⟩
      refine ⟨m, _, _, .int ms[j], rfl, rfl, SqL.of i3, at_of ej (by rw [List.getElem?_map, List.getElem?_eq_getElem hj2]; rfl), ?_⟩
      refine ⟨_, rfl, _, _, rfl, rfl, .inr (by decide), _, rfl, u, _, _, _, rfl, rfl, SqL.of i1, atI_nat (j := 2) rfl, _, _, rfl, rfl, .inr (by decide), _, _, rfl, rfl, _, rfl, _, _, rfl, rfl, .inr (by decide), _, _, rfl, rfl, ?_⟩
      refine ⟨_, rfl, .inl ⟨_, rfl, _, _, rfl, rfl, (by show (2305843009213693951 : Int) ≠ 0; decide), ?_⟩⟩
      have q1 := fmod_rng (a := ms[j] * 3935559000370003845 + sm * 2691343689449507681 + (n + 1) * 7664345821815920749) (p := 2305843009213693951) (by decide)
      refine ⟨_, rfl, _, rfl, _, _, rfl, rfl, .inl ⟨by omega, by omega⟩, _, rfl, _, _, rfl, rfl, .inr (by decide), _, _, rfl, rfl, _, _, rfl, rfl, .inl ⟨_, rfl, _, _, rfl, rfl, (by show (2305843009213693921 : Int) ≠ 0; decide), ?_⟩⟩
      generalize (ms[j] * 3935559000370003845 + sm * 2691343689449507681 + (n + 1) * 7664345821815920749).fmod 2305843009213693951 = b1
      have q2 := fmod_rng (a := b1 * b1 + (n + 1) * 1181783497276652981 + 977) (p := 2305843009213693921) (by decide)
      refine ⟨_, rfl, _, rfl, _, _, rfl, rfl, .inl ⟨by omega, by omega⟩, _, rfl, _, _, rfl, rfl, .inl (by decide), _, _, rfl, rfl, .inl ⟨_, rfl, _, _, rfl, rfl, (by show (2305843009213693951 : Int) ≠ 0; decide), _, _, rfl, rfl, (by show (1048576 : Int) ≠ 0 ∧ _; decide), _, rfl, _, _, rfl, rfl, (by omega), ?_⟩⟩
      exact fin _ (fmod_rng z0).1 (fmod_rng z0).2
theorem scUrn : FnScope ["script", "cells", "deep", "cell"] ["script"] (defScope sUrn) := ⟨rfl, rfl, rfl, by decide +kernel, rfl, by decide +kernel, by decide +kernel⟩
theorem ok_urn {f : Addr} {fd : FuncData} (F : Fun K "_law_urn" "_law_urn" sUrn f fd) (B : Bl mg) : FnOk P w K mg base CX0 1 f fd ["script"] (spUrn K) := by
  refine F.ok scUrn (fun vs H Q E h => ?_) (fun cdv A outer s H vs Q E hr h => ?_)
  · obtain ⟨a, ns, rfl, _⟩ := h
    rfl
  · obtain ⟨a, ns, rfl, hS, k⟩ := h
    refine ⟨_, pss_cons (ps_set (i := 1) scUrn.nd rfl (Or.inl rfl) (pe_slice sl_list (pv 0) po_none (po_some pe_int)))
      (pss_cons (ps_setLc (i := 2) (own := [("cell", 3)]) (g := gName 3) rfl scUrn.nd rfl rfl (sw_true rfl rfl rfl (by decide +kernel)) (pi_list (pv 1)) (blkOk_by (N := ["script", "cells", "deep", "cell"]) (sc := defScope sUrn) (by decide +kernel)) (fun _ _ _ _ _ => pg_name (i := 3) scUrn.nd rfl (Or.inl rfl))
        (fun _ _ _ _ _ => pts_one (pt_cmpR op_ge (pe_callB call_abs (by rfl) B.abs (by decide +kernel) (pa_cons (pv 3) pa_nil)) (pe_op op_pow pe_int pe_int) (nomark _))) (fun _ _ _ _ _ => pe_callB call_abs (by rfl) B.abs (by decide +kernel) (pa_cons (pv 3) pa_nil)))
      (pss_one (ps_ret (pe_lst (pa_cons (pv 2) (pa_cons (pe_op op_cat (pe_lc (own := [("cell", 3)]) (g := gName 3) rfl scUrn.nd (pi_list (pv 1)) (blkOk_by (N := ["script", "cells", "deep", "cell"]) (sc := defScope sUrn) (by decide +kernel)) (fun _ _ _ _ _ => pg_name (i := 3) scUrn.nd rfl (Or.inl rfl))
          (fun _ _ _ _ _ => pts_nil) (fun _ _ _ _ _ => pe_op op_add (pe_op op_mul pe_int (pe_callB call_abs (by rfl) B.abs (by decide +kernel) (pa_cons (pv 3) pa_nil))) (pe_callTy call_int1 (by rfl) B.int_ (by decide +kernel) (pa_cons (pe_cmpR op_lt (pv 3) pe_int (nomark _)) pa_nil))))
          (pe_lst (pa_cons (pe_op op_add pe_int (pe_callB call_len_seq (by rfl) B.len PySem.boot_len (pa_cons (pv 1) pa_nil))) pa_nil)))
        (pa_cons (pe_callB (cr_sum rfl) (by rfl) B.sum (by decide +kernel) (pa_cons (pv 1) pa_nil)) (pa_cons pe_int pa_nil)))))))), ?_⟩
    obtain ⟨cs, hc, ec⟩ := cut63 ns
    refine ⟨_, rfl, _, rfl, a, _, rfl, hS, fun c hc0 => ?_⟩
    rw [ec]
    have S1 : Same H (upd H c (.lst (cs.map V.int))) := Same.fresh (Same.refl _) hc0
    have hcs : upd H c (.lst (cs.map V.int)) c = some (.lst (cs.map V.int)) := upd_same
    generalize upd H c (.lst (cs.map V.int)) = G at S1 hcs
    refine ⟨_, rfl, c, rfl, ⟨_, SqL.of hcs⟩, fun D hD => lc_list (K := K) (a := c) (xs := cs.map V.int) (LcZ G D) (lcZ_start hD) (fun i H' _ I => SqL.of (I.1 _ _ hcs)) (fun i x H' hi I => ?_) (fun H' I => ?_)⟩
    · obtain ⟨n, hn, rfl⟩ := map_at hi
      have hi2 := (List.getElem?_eq_some_iff.mp hn).1
      obtain ⟨S, ds, hl, e⟩ := id I
      refine ⟨rfl, _, rfl, _, rfl, _, _, rfl, rfl, ⟨by decide, by decide, by decide⟩, _, _, rfl, rfl, _, rfl, ?_⟩
      refine ite2 (fun _ => ?_) (fun _ => I.skip)
      exact ⟨_, rfl, _, rfl, _, e, small1000 (by rw [List.length_map]; omega), LcZ.put hD S hl⟩
    · obtain ⟨S, ds, hl, e⟩ := id I
      have hc2 := S _ _ hcs
      refine ⟨_, rfl, _, rfl, c, rfl, ⟨_, SqL.of hc2⟩, fun D2 hD2 => lc_list (K := K) (a := c) (xs := cs.map V.int) (LcZ H' D2) (lcZ_start hD2) (fun i H2 _ I => SqL.of (I.1 _ _ hc2)) (fun i x H2 hi I2 => ?_) (fun H2 I2 => ?_)⟩
      · obtain ⟨n, hn, rfl⟩ := map_at hi
        have hi2 := (List.getElem?_eq_some_iff.mp hi).1
        obtain ⟨S3, ds2, hl2, e2⟩ := id I2
        refine ⟨rfl, yes_ ?_⟩
        refine ⟨_, rfl, _, rfl, _, _, rfl, rfl, .inl (by decide), _, rfl, _, _, rfl, rfl, .inr ⟨_, rfl, _, _, rfl, rfl, _, e2, small1000 (by rw [List.length_map]; rw [List.length_map] at hi2; omega), LcZ.put hD2 S3 hl2⟩⟩
      · obtain ⟨S3, ds2, hl2, e2⟩ := id I2
        have hc3 := S3 _ _ hc2
        have e3 := S3 _ _ e
        have l2 : ds2.length ≤ 63 := by rw [List.length_map] at hl2; omega
        have nDD : D ≠ D2 := ne_of_none e hD2
        refine ⟨_, rfl, c, _, rfl, .inl (SqL.of hc3), _, _, rfl, rfl, (by show 1 ≤ sizeLine; decide), fun p hp => ?_⟩
        have S4 : Same H2 (upd H2 p (.lst [V.int (9176 + ((cs.map V.int).length : Int))])) := Same.fresh (Same.refl _) hp
        have e4 : upd H2 p (.lst [V.int (9176 + ((cs.map V.int).length : Int))]) p = some (.lst ([9176 + ((cs.map V.int).length : Int)].map V.int)) := upd_same
        refine ⟨D2, p, _, _, rfl, rfl, S4 _ _ e2, e4, (by rw [List.length_map, List.length_map]; exact Nat.le_of_lt (small1000 (by show ds2.length + 1 ≤ 1000; omega))), fun q hq => ?_⟩
        generalize upd H2 p (.lst [V.int (9176 + ((cs.map V.int).length : Int))]) = H3 at S4 e4 hq
        have S5 : Same H3 (upd H3 q (.lst (ds2.map V.int ++ [9176 + ((cs.map V.int).length : Int)].map V.int))) := Same.fresh (Same.refl _) hq
        have e5 : upd H3 q (.lst (ds2.map V.int ++ [9176 + ((cs.map V.int).length : Int)].map V.int)) q = some (.lst ((ds2 ++ [9176 + ((cs.map V.int).length : Int)]).map V.int)) := by rw [upd_same, List.map_append]
        have nDq : D ≠ q := ne_of_none (S4 _ _ e3) hq
        generalize upd H3 q (.lst (ds2.map V.int ++ [9176 + ((cs.map V.int).length : Int)].map V.int)) = H4 at S5 e5
        refine ⟨_, rfl, c, cs, rfl, SqL.of (S5 _ _ (S4 _ _ hc3)), (by show 4 ≤ sizeLine; decide), fun u hu => ?_⟩
        have S6 : Same H4 (upd H4 u (.lst [V.ref D, .ref q, .int cs.sum, .int 0])) := Same.fresh (Same.refl _) hu
        exact k _ u D q (S1.trans (S.trans (S3.trans (S4.trans (S5.trans S6))))) ⟨⟨ds, _, cs.sum, 0, upd_same, S6 _ _ (S5 _ _ (S4 _ _ e3)), S6 _ _ e5, by simp⟩, nDq⟩
abbrev A_law_take : AFun := A_take
/-! ### ask_as_many -/
abbrev N_ask_as_many : List Str := ["one_places", "other_places"]
theorem sc_ask_as_many : FnScope N_ask_as_many ["one_places", "other_places"] (defScope s_ask_as_many) := ⟨rfl, rfl, rfl, by decide +kernel, rfl, by decide +kernel, by decide +kernel⟩
def S_ask_as_many : AS := sIf (aTstB (aBin (fEq true) (aVar 0) (aVar 1))) (sRaise0 "Unfit") sNext
abbrev A_ask_as_many : AFun := aFun 2 2 S_ask_as_many
theorem fa_ask_as_many {f : Addr} {fd : FuncData} (F : Fun K "ask_as_many" "ask_as_many" s_ask_as_many f fd) (B : Bl mg) (X_Unfit : Exc0C K mg "Unfit") : FA UrnAt P w K mg base 1 f fd ["one_places", "other_places"] A_ask_as_many := by
  exact fa_of (k := 0) F sc_ask_as_many (by decide) (fun cdv A outer sh H E b => pssa_one (psa_if (pta_cmp (op_neA b.hu) o_ne (apv 0) (apv 1) (nomark _)) (pssa_one (psa_raise0 X_Unfit rfl b.tk (by rfl))) pssa_nil))
/-! ### greatest_shift -/
abbrev N_greatest_shift : List Str := ["one_row", "other_row", "shift", "one", "other"]
theorem sc_greatest_shift : FnScope N_greatest_shift ["one_row", "other_row"] (defScope s_greatest_shift) := ⟨rfl, rfl, rfl, by decide +kernel, rfl, by decide +kernel, by decide +kernel⟩
def S_greatest_shift_1 : AS := sIf (aTstB (aBin (fIs true) (aVar 3) (aVal .none))) (sSeq (sIf (aTstB (aBin (fIs false) (aVar 4) (aVal .none))) (sRet (aVal .none)) sNext) (sIf (aOrT (aTstB (aBin (fIs false) (aVar 2) (aVal .none))) (aTstB (aBin fLt (aBin fSub (aVar 4) (aVar 3)) (aVar 2)))) (sSet 2 (aBin fSub (aVar 4) (aVar 3))) sNext)) sNext
def S_greatest_shift : AS := sSeq (sSet 2 (aVal .none)) (sSeq (sFor (aZip (aCons (aVar 0) (aCons (aVar 1) aNil))) (agTup 2 (agCons (agName 3) (agCons (agName 4) agNil))) S_greatest_shift_1) (sRet (aVar 2)))
abbrev A_greatest_shift : AFun := aFun 5 2 S_greatest_shift
theorem fa_greatest_shift {f : Addr} {fd : FuncData} (F : Fun K "greatest_shift" "greatest_shift" s_greatest_shift f fd) (B : Bl mg) : FA UrnAt P w K mg base 1 f fd ["one_row", "other_row"] A_greatest_shift := by
  exact fa_of (k := 0) F sc_greatest_shift (by decide) (fun cdv A outer sh H E b => pssa_cons (psa_set (i := 2) sc_greatest_shift.nd rfl (Or.inl rfl) pea_non) (pssa_cons (psa_for b.hp rfl (pia_zip rfl B.zip (paa_cons (apv 0) (paa_cons (apv 1) paa_nil))) (pga_tup rfl (pgsa_cons (pga_name (i := 3) sc_greatest_shift.nd rfl (Or.inl rfl)) (pgsa_cons (pga_name (i := 4) sc_greatest_shift.nd rfl (Or.inl rfl)) pgsa_nil))) (pssa_one (psa_if (pta_cmp op_notN o_isnot (apv 3) pea_non (nomark _)) (pssa_cons (psa_if (pta_cmp op_isN o_is (apv 4) pea_non (nomark _)) (pssa_one (psa_ret pea_non)) pssa_nil) (pssa_one (psa_if (pta_w (pwa_or (pta_cmp op_isN o_is (apv 2) pea_non (nomark _)) (pwa_or1 (pta_cmp op_lt o_lt (pea_op op_sub o_sub (apv 4) (apv 3)) (apv 2) (nomark _))))) (pssa_one (psa_set (i := 2) sc_greatest_shift.nd rfl (Or.inl rfl) (pea_op op_sub o_sub (apv 4) (apv 3)))) pssa_nil))) pssa_nil))) (pssa_one (psa_ret (apv 2)))))
/-! ### integer_places -/
abbrev N_integer_places : List Str := ["side", "place", "number"]
theorem sc_integer_places : FnScope N_integer_places ["side"] (defScope s_integer_places) := ⟨rfl, rfl, rfl, by decide +kernel, rfl, by decide +kernel, by decide +kernel⟩
def S_integer_places : AS := sRet (aOf (aLc [1, 2] (aEnumT (aCons (aVar 0) aNil)) (agTup 2 (agCons (agName 1) (agCons (agName 2) agNil))) (aTstB (aBin (fIs true) (aVar 2) (aVal .none))) (aVar 1)))
abbrev A_integer_places : AFun := aFun 3 1 S_integer_places
theorem fa_integer_places {f : Addr} {fd : FuncData} (F : Fun K "integer_places" "integer_places" s_integer_places f fd) (B : Bl mg) : FA UrnAt P w K mg base 1 f fd ["side"] A_integer_places := by
  exact fa_of (k := 0) F sc_integer_places (by decide) (fun cdv A outer sh H E b => pssa_one (psa_ret (pea_of (pel_lc (own := [("place", 1), ("number", 2)]) rfl sc_integer_places.nd (pia_enumT rfl B.enumerate (paa_cons (apv 0) paa_nil)) (blkOk_by (N := N_integer_places) (sc := defScope s_integer_places) (by decide +kernel)) (fun _ _ _ _ _ => pga_tup rfl (pgsa_cons (pga_name (i := 1) sc_integer_places.nd rfl (Or.inl rfl)) (pgsa_cons (pga_name (i := 2) sc_integer_places.nd rfl (Or.inl rfl)) pgsa_nil))) (fun _ _ _ _ _ => ptsa_one (pta_cmp op_notN o_isnot (apv 2) pea_non (nomark _))) (fun _ _ _ _ _ => apv 1)))))
/-! ### _law_plus -/
abbrev N_law_plus : List Str := ["line", "much", "own"]
theorem sc_law_plus : FnScope N_law_plus ["line", "much"] (defScope s_law_plus) := ⟨rfl, rfl, rfl, by decide +kernel, rfl, by decide +kernel, by decide +kernel⟩
def S_law_plus : AS := sRet (aCB fTuple (aCons (aOf (aLc [2] (aSeq (aVar 0)) (agName 2) aYes (aIf (aTstB (aBin (fIs false) (aVar 2) (aVal .none))) (aVal .none) (aBin fAdd (aVar 2) (aVar 1))))) aNil))
abbrev A_law_plus : AFun := aFun 3 2 S_law_plus
theorem fa_law_plus {f : Addr} {fd : FuncData} (F : Fun K "_law_plus" "_law_plus" s_law_plus f fd) (B : Bl mg) : FA UrnAt P w K mg base 1 f fd ["line", "much"] A_law_plus := by
  exact fa_of (k := 0) F sc_law_plus (by decide) (fun cdv A outer sh H E b => pssa_one (psa_ret (pea_callTy call_tuple_of o_tuple (by rfl) B.tuple (by decide +kernel) (paa_cons (pea_of (pel_lc (own := [("own", 2)]) rfl sc_law_plus.nd (pia_seq (apv 0)) (blkOk_by (N := N_law_plus) (sc := defScope s_law_plus) (by decide +kernel)) (fun _ _ _ _ _ => pga_name (i := 2) sc_law_plus.nd rfl (Or.inl rfl)) (fun _ _ _ _ _ => ptsa_nil) (fun _ _ _ _ _ => pea_ifExp (pta_cmp op_isN o_is (apv 2) pea_non (nomark _)) pea_non (pea_op op_addA o_add (apv 2) (apv 1))))) paa_nil))))
/-! ### _law_more -/
abbrev N_law_more : List Str := ["one", "other"]
theorem sc_law_more : FnScope N_law_more ["one", "other"] (defScope s_law_more) := ⟨rfl, rfl, rfl, by decide +kernel, rfl, by decide +kernel, by decide +kernel⟩
def S_law_more : AS := sSeq (sIf (aOrT (aTstB (aBin (fIs false) (aVar 0) (aVal .none))) (aTstB (aBin (fIs false) (aVar 1) (aVal .none)))) (sRet (aIf (aTstB (aBin (fIs false) (aVar 0) (aVal .none))) (aVar 1) (aVar 0))) sNext) (sRet (aIf (aTstB (aBin fGt (aVar 0) (aVar 1))) (aVar 0) (aVar 1)))
abbrev A_law_more : AFun := aFun 2 2 S_law_more
theorem fa_law_more {f : Addr} {fd : FuncData} (F : Fun K "_law_more" "_law_more" s_law_more f fd) (B : Bl mg) : FA UrnAt P w K mg base 1 f fd ["one", "other"] A_law_more := by
  exact fa_of (k := 0) F sc_law_more (by decide) (fun cdv A outer sh H E b => pssa_cons (psa_if (pta_w (pwa_or (pta_cmp op_isN o_is (apv 0) pea_non (nomark _)) (pwa_or1 (pta_cmp op_isN o_is (apv 1) pea_non (nomark _))))) (pssa_one (psa_ret (pea_ifExp (pta_cmp op_isN o_is (apv 0) pea_non (nomark _)) (apv 1) (apv 0)))) pssa_nil) (pssa_one (psa_ret (pea_ifExp (pta_cmp op_gt o_gt (apv 0) (apv 1) (nomark _)) (apv 0) (apv 1)))))
/-! ### _law_reaches -/
abbrev N_law_reaches : List Str := ["own", "line", "at", "low", "top"]
theorem sc_law_reaches : FnScope N_law_reaches ["own", "line", "at"] (defScope s_law_reaches) := ⟨rfl, rfl, rfl, by decide +kernel, rfl, by decide +kernel, by decide +kernel⟩
def S_law_reaches_1 : AS := sIf (aAndT (aTstB (aBin (fIs true) (aVar 3) (aVal .none))) (aOrT (aTstB (aBin (fIs false) (aVar 4) (aVal .none))) (aTstB (aBin fGt (aBin fSub (aVar 3) (aBin fIx (aVar 0) (aVar 2))) (aBin fSub (aVar 4) (aBin fIx (aVar 1) (aVar 2))))))) (sRet (aVal (.bool false))) sNext
def S_law_reaches : AS := sSeq (sFor (aZip (aCons (aVar 0) (aCons (aVar 1) aNil))) (agTup 2 (agCons (agName 3) (agCons (agName 4) agNil))) S_law_reaches_1) (sRet (aVal (.bool true)))
abbrev A_law_reaches : AFun := aFun 5 3 S_law_reaches
theorem fa_law_reaches {f : Addr} {fd : FuncData} (F : Fun K "_law_reaches" "_law_reaches" s_law_reaches f fd) (B : Bl mg) : FA UrnAt P w K mg base 1 f fd ["own", "line", "at"] A_law_reaches := by
  exact fa_of (k := 0) F sc_law_reaches (by decide) (fun cdv A outer sh H E b => pssa_cons (psa_for b.hp rfl (pia_zip rfl B.zip (paa_cons (apv 0) (paa_cons (apv 1) paa_nil))) (pga_tup rfl (pgsa_cons (pga_name (i := 3) sc_law_reaches.nd rfl (Or.inl rfl)) (pgsa_cons (pga_name (i := 4) sc_law_reaches.nd rfl (Or.inl rfl)) pgsa_nil))) (pssa_one (psa_if (pta_w (pwa_and (pta_cmp op_notN o_isnot (apv 3) pea_non (nomark _)) (pwa_and1 (pta_w (pwa_or (pta_cmp op_isN o_is (apv 4) pea_non (nomark _)) (pwa_or1 (pta_cmp op_gt o_gt (pea_op op_sub o_sub (apv 3) (pea_ix (apv 0) (apv 2) (fun _ _ => rfl))) (pea_op op_sub o_sub (apv 4) (pea_ix (apv 1) (apv 2) (fun _ _ => rfl))) (nomark _)))))))) (pssa_one (psa_ret pea_bl)) pssa_nil))) (pssa_one (psa_ret pea_bl)))
/-! ### touched -/
abbrev N_touched : List Str := ["one_row", "other_row", "shift", "place"]
theorem sc_touched : FnScope N_touched ["one_row", "other_row"] (defScope s_touched) := ⟨rfl, rfl, rfl, by decide +kernel, rfl, by decide +kernel, by decide +kernel⟩
def S_touched : AS := sSeq (sSet 2 (aCall A_greatest_shift (aCons (aVar 0) (aCons (aVar 1) aNil)))) (sSeq (sIf (aTstB (aBin (fIs false) (aVar 2) (aVal .none))) (sRet (aOf (aLst aNil))) sNext) (sRet (aOf (aLc [3] (aSeq (aCall A_integer_places (aCons (aVar 0) aNil))) (agName 3) (aTstB (aBin (fEq false) (aBin fAdd (aBin fIx (aVar 0) (aVar 3)) (aVar 2)) (aBin fIx (aVar 1) (aVar 3)))) (aVar 3)))))
abbrev A_touched : AFun := aFun 4 2 S_touched
theorem fa_touched {f : Addr} {fd : FuncData} (F : Fun K "touched" "touched" s_touched f fd) (B : Bl mg)
    (C_greatest_shift : CalA UrnAt P w K mg base "greatest_shift" 1 ["one_row", "other_row"] A_greatest_shift)
    (C_integer_places : CalA UrnAt P w K mg base "integer_places" 1 ["side"] A_integer_places) : FA UrnAt P w K mg base 2 f fd ["one_row", "other_row"] A_touched := by
  obtain ⟨f_greatest_shift, fd_greatest_shift, F_greatest_shift, m_greatest_shift, k_greatest_shift, b_greatest_shift⟩ := C_greatest_shift.ex
  obtain ⟨f_integer_places, fd_integer_places, F_integer_places, m_integer_places, k_integer_places, b_integer_places⟩ := C_integer_places.ex
  exact fa_of (k := 1) F sc_touched (by decide) (fun cdv A outer sh H E b => pssa_cons (psa_set (i := 2) sc_touched.nd rfl (Or.inr rfl) (pea_call F_greatest_shift b (by decide) rfl m_greatest_shift k_greatest_shift b_greatest_shift (paa_cons (apv 0) (paa_cons (apv 1) paa_nil)))) (pssa_cons (psa_if (pta_cmp op_isN o_is (apv 2) pea_non (nomark _)) (pssa_one (psa_ret (pea_of (pel_lst paa_nil)))) pssa_nil) (pssa_one (psa_ret (pea_of (pel_lc (own := [("place", 3)]) rfl sc_touched.nd (pia_seq (pea_call F_integer_places b (by decide) rfl m_integer_places k_integer_places b_integer_places (paa_cons (apv 0) paa_nil))) (blkOk_by (N := N_touched) (sc := defScope s_touched) (by decide +kernel)) (fun _ _ _ _ _ => pga_name (i := 3) sc_touched.nd rfl (Or.inl rfl)) (fun _ _ _ _ _ => ptsa_one (pta_cmp (op_eqA b.blk.hu) o_eq (pea_op op_addA o_add (pea_ix (apv 0) (apv 3) (fun _ _ => rfl)) (apv 2)) (pea_ix (apv 1) (apv 3) (fun _ _ => rfl)) (nomark _))) (fun _ _ _ _ _ => apv 3)))))))
/-! ### _law_one -/
abbrev N_law_one : List Str := ["urn", "items"]
theorem sc_law_one : FnScope N_law_one ["urn", "items"] (defScope s_law_one) := ⟨rfl, rfl, rfl, by decide +kernel, rfl, by decide +kernel, by decide +kernel⟩
def S_law_one : AS := sRet (aBin fIx (aVar 1) (aCall A_law_take (aCons (aVar 0) (aCons (aCB fLen (aCons (aVar 1) aNil)) aNil))))
abbrev A_law_one : AFun := aFun 2 2 S_law_one
theorem fa_law_one {f : Addr} {fd : FuncData} (F : Fun K "_law_one" "_law_one" s_law_one f fd) (B : Bl mg)
    (C_law_take : CalA UrnAt P w K mg base "_law_take" 1 ["urn", "size"] A_law_take) : FA UrnAt P w K mg base 2 f fd ["urn", "items"] A_law_one := by
  obtain ⟨f_law_take, fd_law_take, F_law_take, m_law_take, k_law_take, b_law_take⟩ := C_law_take.ex
  exact fa_of (k := 1) F sc_law_one (by decide) (fun cdv A outer sh H E b => pssa_one (psa_ret (pea_ix (apv 1) (pea_call F_law_take b (by decide) rfl m_law_take k_law_take b_law_take (paa_cons (apv 0) (paa_cons (pea_callB cl_len o_len (by rfl) B.len PySem.boot_len (paa_cons (apv 1) paa_nil)) paa_nil))) (fun _ _ => rfl))))
/-! ### _law_whole -/
abbrev N_law_whole : List Str := ["urn", "world"]
theorem sc_law_whole : FnScope N_law_whole ["urn", "world"] (defScope s_law_whole) := ⟨rfl, rfl, rfl, by decide +kernel, rfl, by decide +kernel, by decide +kernel⟩
def S_law_whole : AS := sRet (aBin fAdd (aBin fSub (aCall A_law_take (aCons (aVar 0) (aCons (aBin fAdd (aBin fMul (aVal (.int 2)) (aBin fIx (aVar 1) (aVal (.int 0)))) (aVal (.int 1))) aNil))) (aBin fIx (aVar 1) (aVal (.int 0)))) (aBin fMul (aBin fIx (aVar 1) (aVal (.int 1))) (aBin fSub (aCall A_law_take (aCons (aVar 0) (aCons (aVal (.int 3)) aNil))) (aVal (.int 1)))))
abbrev A_law_whole : AFun := aFun 2 2 S_law_whole
theorem fa_law_whole {f : Addr} {fd : FuncData} (F : Fun K "_law_whole" "_law_whole" s_law_whole f fd) (B : Bl mg)
    (C_law_take : CalA UrnAt P w K mg base "_law_take" 1 ["urn", "size"] A_law_take) : FA UrnAt P w K mg base 2 f fd ["urn", "world"] A_law_whole := by
  obtain ⟨f_law_take, fd_law_take, F_law_take, m_law_take, k_law_take, b_law_take⟩ := C_law_take.ex
  exact fa_of (k := 1) F sc_law_whole (by decide) (fun cdv A outer sh H E b => pssa_one (psa_ret (pea_op op_addA o_add (pea_op op_sub o_sub (pea_call F_law_take b (by decide) rfl m_law_take k_law_take b_law_take (paa_cons (apv 0) (paa_cons (pea_op op_addA o_add (pea_op op_mulA o_mul pea_int (pea_ix (apv 1) pea_int (fun _ _ => rfl))) pea_int) paa_nil))) (pea_ix (apv 1) pea_int (fun _ _ => rfl))) (pea_op op_mulA o_mul (pea_ix (apv 1) pea_int (fun _ _ => rfl)) (pea_op op_sub o_sub (pea_call F_law_take b (by decide) rfl m_law_take k_law_take b_law_take (paa_cons (apv 0) (paa_cons pea_int paa_nil))) pea_int)))))
/-! ### _law_is_made -/
abbrev N_law_is_made : List Str := ["rows", "line", "at", "own"]
theorem sc_law_is_made : FnScope N_law_is_made ["rows", "line"] (defScope s_law_is_made) := ⟨rfl, rfl, rfl, by decide +kernel, rfl, by decide +kernel, by decide +kernel⟩
def S_law_is_made_1 : AS := sIf (aTstB (aBin (fIs true) (aBin fIx (aVar 1) (aVar 2)) (aVal .none))) (sIf (aTstB (aBin (fEq false) (aOf (aLc [3] (aSeq (aVar 0)) (agName 3) (aAndT (aTstB (aBin (fIs true) (aBin fIx (aVar 3) (aVar 2)) (aVal .none))) (aTst (aCall A_law_reaches (aCons (aVar 3) (aCons (aVar 1) (aCons (aVar 2) aNil)))))) (aVal (.int 1)))) (aOf (aLst aNil)))) (sRet (aVal (.bool false))) sNext) sNext
def S_law_is_made : AS := sSeq (sFor (aRng1 (aCons (aCB fLen (aCons (aVar 1) aNil)) aNil)) (agName 2) S_law_is_made_1) (sRet (aVal (.bool true)))
abbrev A_law_is_made : AFun := aFun 4 2 S_law_is_made
theorem fa_law_is_made {f : Addr} {fd : FuncData} (F : Fun K "_law_is_made" "_law_is_made" s_law_is_made f fd) (B : Bl mg)
    (C_law_reaches : CalA UrnAt P w K mg base "_law_reaches" 1 ["own", "line", "at"] A_law_reaches) : FA UrnAt P w K mg base 2 f fd ["rows", "line"] A_law_is_made := by
  obtain ⟨f_law_reaches, fd_law_reaches, F_law_reaches, m_law_reaches, k_law_reaches, b_law_reaches⟩ := C_law_reaches.ex
  exact fa_of (k := 1) F sc_law_is_made (by decide) (fun cdv A outer sh H E b => pssa_cons (psa_for b.hp rfl (pia_range1 rfl B.range (paa_cons (pea_callB cl_len o_len (by rfl) B.len PySem.boot_len (paa_cons (apv 1) paa_nil)) paa_nil)) (pga_name (i := 2) sc_law_is_made.nd rfl (Or.inr rfl)) (pssa_one (psa_if (pta_cmp op_notN o_isnot (pea_ix (apv 1) (apv 2) (fun _ _ => rfl)) pea_non (nomark _)) (pssa_one (psa_if (pta_cmp (op_eqA b.hu) o_eq (pea_of (pel_lc (own := [("own", 3)]) rfl sc_law_is_made.nd (pia_seq (apv 0)) (blkOk_by (N := N_law_is_made) (sc := defScope s_law_is_made) (by decide +kernel)) (fun _ _ _ _ _ => pga_name (i := 3) sc_law_is_made.nd rfl (Or.inl rfl)) (fun _ _ _ _ _ => ptsa_one (pta_w (pwa_and (pta_cmp op_notN o_isnot (pea_ix (apv 3) (apv 2) (fun _ _ => rfl)) pea_non (nomark _)) (pwa_and1 (pta_val (pea_call F_law_reaches b.blk (by decide) rfl m_law_reaches k_law_reaches b_law_reaches (paa_cons (apv 3) (paa_cons (apv 1) (paa_cons (apv 2) paa_nil))))))))) (fun _ _ _ _ _ => pea_int))) (pea_of (pel_lst paa_nil)) (nomark _)) (pssa_one (psa_ret pea_bl)) pssa_nil)) pssa_nil))) (pssa_one (psa_ret pea_bl)))
/-! ### is_made_of -/
abbrev N_is_made_of : List Str := ["rows", "row", "missing", "one", "places", "place"]
theorem sc_is_made_of : FnScope N_is_made_of ["rows", "row"] (defScope s_is_made_of) := ⟨rfl, rfl, rfl, by decide +kernel, rfl, by decide +kernel, by decide +kernel⟩
def S_is_made_of_1 : AS := sSeq (sSet 4 (aCall A_touched (aCons (aVar 3) (aCons (aVar 1) aNil)))) (sSeq (sLst 2 (aLc [5] (aSeq (aVar 2)) (agName 5) (aTstB (aBin (fIn true) (aVar 5) (aVar 4))) (aVar 5))) (sIf (aNotT (aTst (aVar 2))) (sRet (aVal (.bool true))) sNext))
def S_is_made_of : AS := sSeq (sSet 2 (aCall A_integer_places (aCons (aVar 1) aNil))) (sSeq (sFor (aSeq (aVar 0)) (agName 3) S_is_made_of_1) (sRet (aVal (.bool false))))
abbrev A_is_made_of : AFun := aFun 6 2 S_is_made_of
theorem fa_is_made_of {f : Addr} {fd : FuncData} (F : Fun K "is_made_of" "is_made_of" s_is_made_of f fd) (B : Bl mg)
    (C_integer_places : CalA UrnAt P w K mg base "integer_places" 1 ["side"] A_integer_places)
    (C_touched : CalA UrnAt P w K mg base "touched" 2 ["one_row", "other_row"] A_touched) : FA UrnAt P w K mg base 3 f fd ["rows", "row"] A_is_made_of := by
  obtain ⟨f_integer_places, fd_integer_places, F_integer_places, m_integer_places, k_integer_places, b_integer_places⟩ := C_integer_places.ex
  obtain ⟨f_touched, fd_touched, F_touched, m_touched, k_touched, b_touched⟩ := C_touched.ex
  exact fa_of (k := 2) F sc_is_made_of (by decide) (fun cdv A outer sh H E b => pssa_cons (psa_set (i := 2) sc_is_made_of.nd rfl (Or.inl rfl) (pea_call F_integer_places b (by decide) rfl m_integer_places k_integer_places b_integer_places (paa_cons (apv 1) paa_nil))) (pssa_cons (psa_for b.hp rfl (pia_seq (apv 0)) (pga_name (i := 3) sc_is_made_of.nd rfl (Or.inl rfl)) (pssa_cons (psa_set (i := 4) sc_is_made_of.nd rfl (Or.inr rfl) (pea_call F_touched b (by decide) rfl m_touched k_touched b_touched (paa_cons (apv 3) (paa_cons (apv 1) paa_nil)))) (pssa_cons (psa_lcD (i := 2) (own := [("place", 5)]) rfl sc_is_made_of.nd rfl rfl (sw_true rfl rfl rfl (by decide +kernel)) (pia_seq (apv 2)) (blkOk_by (N := N_is_made_of) (sc := defScope s_is_made_of) (by decide +kernel)) (fun _ _ _ _ _ => pga_name (i := 5) sc_is_made_of.nd rfl (Or.inl rfl)) (fun _ _ _ _ _ => ptsa_one (pta_cmp op_notIn_seq o_in (apv 5) (apv 4) (by rfl))) (fun _ _ _ _ _ => apv 5)) (pssa_one (psa_if (pta_not (pta_val (apv 2))) (pssa_one (psa_ret pea_bl)) pssa_nil))))) (pssa_one (psa_ret pea_bl))))
/-! ### _law_row_of -/
abbrev N_law_row_of : List Str := ["urn", "wide", "world", "share", "found", "turn"]
theorem sc_law_row_of : FnScope N_law_row_of ["urn", "wide", "world"] (defScope s_law_row_of) := ⟨rfl, rfl, rfl, by decide +kernel, rfl, by decide +kernel, by decide +kernel⟩
def S_law_row_of : AS := sSeq (sSet 3 (aCall A_law_one (aCons (aVar 0) (aCons (aOf (aLst (aCons (aVal (.int 2)) (aCons (aVal (.int 4)) (aCons (aVal (.int 30)) aNil))))) aNil)))) (sSeq (sOwn 4 (aLc [5] (aRng1 (aCons (aVar 1) aNil)) (agName 5) aYes (aIf (aTstB (aBin (fEq false) (aCall A_law_take (aCons (aVar 0) (aCons (aVar 3) aNil))) (aVal (.int 0)))) (aVal .none) (aCall A_law_whole (aCons (aVar 0) (aCons (aVar 2) aNil)))))) (sSeq (sIf (aFzT (aTstB (aBin (fEq false) (aVar 4) (aBin fMul (aOf (aLst (aCons (aVal .none) aNil))) (aVar 1))))) (sSetIx 4 (aCall A_law_take (aCons (aVar 0) (aCons (aVar 1) aNil))) (aCall A_law_whole (aCons (aVar 0) (aCons (aVar 2) aNil)))) sNext) (sFrz 4 (sRet (aCB fTuple (aCons (aVar 4) aNil))))))
abbrev A_law_row_of : AFun := aFun 6 3 S_law_row_of
theorem fa_law_row_of {f : Addr} {fd : FuncData} (F : Fun K "_law_row_of" "_law_row_of" s_law_row_of f fd) (B : Bl mg)
    (C_law_one : CalA UrnAt P w K mg base "_law_one" 2 ["urn", "items"] A_law_one)
    (C_law_whole : CalA UrnAt P w K mg base "_law_whole" 2 ["urn", "world"] A_law_whole)
    (C_law_take : CalA UrnAt P w K mg base "_law_take" 1 ["urn", "size"] A_law_take) : FA UrnAt P w K mg base 3 f fd ["urn", "wide", "world"] A_law_row_of := by
  obtain ⟨f_law_one, fd_law_one, F_law_one, m_law_one, k_law_one, b_law_one⟩ := C_law_one.ex
  obtain ⟨f_law_whole, fd_law_whole, F_law_whole, m_law_whole, k_law_whole, b_law_whole⟩ := C_law_whole.ex
  obtain ⟨f_law_take, fd_law_take, F_law_take, m_law_take, k_law_take, b_law_take⟩ := C_law_take.ex
  exact fa_of (k := 2) F sc_law_row_of (by decide) (fun cdv A outer sh H E b => pssa_cons (psa_set (i := 3) sc_law_row_of.nd rfl (Or.inr rfl) (pea_call F_law_one b (by decide) rfl m_law_one k_law_one b_law_one (paa_cons (apv 0) (paa_cons (pea_of (pel_lst (paa_cons pea_int (paa_cons pea_int (paa_cons pea_int paa_nil))))) paa_nil)))) (pssa_cons (psa_lcO (i := 4) (own := [("turn", 5)]) rfl sc_law_row_of.nd rfl rfl (sw_true rfl rfl rfl (by decide +kernel)) (pia_range1 rfl B.range (paa_cons (apv 1) paa_nil)) (blkOk_by (N := N_law_row_of) (sc := defScope s_law_row_of) (by decide +kernel)) (fun _ _ _ _ _ => pga_name (i := 5) sc_law_row_of.nd rfl (Or.inl rfl)) (fun _ _ _ _ _ => ptsa_nil) (fun _ _ _ _ _ => pea_ifExp (pta_cmp (op_eqA b.blk.hu) o_eq (pea_call F_law_take b.blk (by decide) rfl m_law_take k_law_take b_law_take (paa_cons (apv 0) (paa_cons (apv 3) paa_nil))) pea_int (nomark _)) pea_non (pea_call F_law_whole b.blk (by decide) rfl m_law_whole k_law_whole b_law_whole (paa_cons (apv 0) (paa_cons (apv 2) paa_nil))))) (pssa_cons (psa_if (pta_fz (pta_cmp (op_eqA b.hu) o_eq (apv 4) (pea_op op_mulA o_mul (pea_of (pel_lst (paa_cons pea_non paa_nil))) (apv 1)) (nomark _))) (pssa_one (psa_setIx (i := 4) rfl (Or.inl rfl) (pea_call F_law_take b (by decide) rfl m_law_take k_law_take b_law_take (paa_cons (apv 0) (paa_cons (apv 1) paa_nil))) (pea_call F_law_whole b (by decide) rfl m_law_whole k_law_whole b_law_whole (paa_cons (apv 0) (paa_cons (apv 2) paa_nil))))) pssa_nil) (pssa_one (psa_frz 4 (psa_ret (pea_callTy call_tuple_of o_tuple (by rfl) B.tuple (by decide +kernel) (paa_cons (apv 4) paa_nil))))))))
/-! ### _law_made -/
abbrev N_law_made : List Str := ["urn", "rows", "world", "found", "turn", "own", "one", "other"]
theorem sc_law_made : FnScope N_law_made ["urn", "rows", "world"] (defScope s_law_made) := ⟨rfl, rfl, rfl, by decide +kernel, rfl, by decide +kernel, by decide +kernel⟩
def S_law_made_1 : AS := sSeq (sSet 5 (aCall A_law_plus (aCons (aBin fIx (aVar 1) (aCall A_law_take (aCons (aVar 0) (aCons (aCB fLen (aCons (aVar 1) aNil)) aNil)))) (aCons (aCall A_law_whole (aCons (aVar 0) (aCons (aVar 2) aNil))) aNil)))) (sSet 3 (aCB fTuple (aCons (aOf (aLc [6, 7] (aZip (aCons (aVar 3) (aCons (aVar 5) aNil))) (agTup 2 (agCons (agName 6) (agCons (agName 7) agNil))) aYes (aCall A_law_more (aCons (aVar 6) (aCons (aVar 7) aNil))))) aNil)))
def S_law_made : AS := sSeq (sSet 3 (aBin fIx (aVar 1) (aCall A_law_take (aCons (aVar 0) (aCons (aCB fLen (aCons (aVar 1) aNil)) aNil))))) (sSeq (sFor (aRng1 (aCons (aCall A_law_take (aCons (aVar 0) (aCons (aVal (.int 4)) aNil))) aNil)) (agName 4) S_law_made_1) (sRet (aCall A_law_plus (aCons (aVar 3) (aCons (aCall A_law_whole (aCons (aVar 0) (aCons (aVar 2) aNil))) aNil)))))
abbrev A_law_made : AFun := aFun 8 3 S_law_made
theorem fa_law_made {f : Addr} {fd : FuncData} (F : Fun K "_law_made" "_law_made" s_law_made f fd) (B : Bl mg)
    (C_law_plus : CalA UrnAt P w K mg base "_law_plus" 1 ["line", "much"] A_law_plus)
    (C_law_take : CalA UrnAt P w K mg base "_law_take" 1 ["urn", "size"] A_law_take)
    (C_law_whole : CalA UrnAt P w K mg base "_law_whole" 2 ["urn", "world"] A_law_whole)
    (C_law_more : CalA UrnAt P w K mg base "_law_more" 1 ["one", "other"] A_law_more) : FA UrnAt P w K mg base 3 f fd ["urn", "rows", "world"] A_law_made := by
  obtain ⟨f_law_plus, fd_law_plus, F_law_plus, m_law_plus, k_law_plus, b_law_plus⟩ := C_law_plus.ex
  obtain ⟨f_law_take, fd_law_take, F_law_take, m_law_take, k_law_take, b_law_take⟩ := C_law_take.ex
  obtain ⟨f_law_whole, fd_law_whole, F_law_whole, m_law_whole, k_law_whole, b_law_whole⟩ := C_law_whole.ex
  obtain ⟨f_law_more, fd_law_more, F_law_more, m_law_more, k_law_more, b_law_more⟩ := C_law_more.ex
  exact fa_of (k := 2) F sc_law_made (by decide) (fun cdv A outer sh H E b => pssa_cons (psa_set (i := 3) sc_law_made.nd rfl (Or.inl rfl) (pea_ix (apv 1) (pea_call F_law_take b (by decide) rfl m_law_take k_law_take b_law_take (paa_cons (apv 0) (paa_cons (pea_callB cl_len o_len (by rfl) B.len PySem.boot_len (paa_cons (apv 1) paa_nil)) paa_nil))) (fun _ _ => rfl))) (pssa_cons (psa_for b.hp rfl (pia_range1 rfl B.range (paa_cons (pea_call F_law_take b (by decide) rfl m_law_take k_law_take b_law_take (paa_cons (apv 0) (paa_cons pea_int paa_nil))) paa_nil)) (pga_name (i := 4) sc_law_made.nd rfl (Or.inl rfl)) (pssa_cons (psa_set (i := 5) sc_law_made.nd rfl (Or.inl rfl) (pea_call F_law_plus b (by decide) rfl m_law_plus k_law_plus b_law_plus (paa_cons (pea_ix (apv 1) (pea_call F_law_take b (by decide) rfl m_law_take k_law_take b_law_take (paa_cons (apv 0) (paa_cons (pea_callB cl_len o_len (by rfl) B.len PySem.boot_len (paa_cons (apv 1) paa_nil)) paa_nil))) (fun _ _ => rfl)) (paa_cons (pea_call F_law_whole b (by decide) rfl m_law_whole k_law_whole b_law_whole (paa_cons (apv 0) (paa_cons (apv 2) paa_nil))) paa_nil)))) (pssa_one (psa_set (i := 3) sc_law_made.nd rfl (Or.inl rfl) (pea_callTy call_tuple_of o_tuple (by rfl) B.tuple (by decide +kernel) (paa_cons (pea_of (pel_lc (own := [("one", 6), ("other", 7)]) rfl sc_law_made.nd (pia_zip rfl B.zip (paa_cons (apv 3) (paa_cons (apv 5) paa_nil))) (blkOk_by (N := N_law_made) (sc := defScope s_law_made) (by decide +kernel)) (fun _ _ _ _ _ => pga_tup rfl (pgsa_cons (pga_name (i := 6) sc_law_made.nd rfl (Or.inl rfl)) (pgsa_cons (pga_name (i := 7) sc_law_made.nd rfl (Or.inl rfl)) pgsa_nil))) (fun _ _ _ _ _ => ptsa_nil) (fun _ _ _ _ _ => pea_call F_law_more b.blk (by decide) rfl m_law_more k_law_more b_law_more (paa_cons (apv 6) (paa_cons (apv 7) paa_nil))))) paa_nil)))))) (pssa_one (psa_ret (pea_call F_law_plus b (by decide) rfl m_law_plus k_law_plus b_law_plus (paa_cons (apv 3) (paa_cons (pea_call F_law_whole b (by decide) rfl m_law_whole k_law_whole b_law_whole (paa_cons (apv 0) (paa_cons (apv 2) paa_nil))) paa_nil)))))))
/-! ### _law_near -/
abbrev N_law_near : List Str := ["urn", "line", "world", "at", "own", "found"]
theorem sc_law_near : FnScope N_law_near ["urn", "line", "world"] (defScope s_law_near) := ⟨rfl, rfl, rfl, by decide +kernel, rfl, by decide +kernel, by decide +kernel⟩
def S_law_near : AS := sSeq (sSet 3 (aCall A_law_take (aCons (aVar 0) (aCons (aCB fLen (aCons (aVar 1) aNil)) aNil)))) (sSeq (sSet 4 (aIf (aTstB (aBin (fIs true) (aBin fIx (aVar 1) (aVar 3)) (aVal .none))) (aBin fIx (aVar 1) (aVar 3)) (aCall A_law_whole (aCons (aVar 0) (aCons (aVar 2) aNil))))) (sSeq (sSet 5 (aBin fAdd (aBin fAdd (aSl (aVar 1) aNoPart (aPart (aVar 3))) (aTup (aCons (aCall A_law_one (aCons (aVar 0) (aCons (aOf (aLst (aCons (aBin fAdd (aVar 4) (aVal (.int 1))) (aCons (aBin fSub (aVar 4) (aVal (.int 1))) (aCons (aVar 4) (aCons (aVal .none) (aCons (aBin fAdd (aVar 4) (aCall A_law_whole (aCons (aVar 0) (aCons (aVar 2) aNil)))) aNil))))))) aNil))) aNil))) (aSl (aVar 1) (aPart (aBin fAdd (aVar 3) (aVal (.int 1)))) aNoPart))) (sRet (aIf (aTstB (aBin (fEq true) (aVar 5) (aBin fMul (aTup (aCons (aVal .none) aNil)) (aCB fLen (aCons (aVar 1) aNil))))) (aVar 5) (aVar 1)))))
abbrev A_law_near : AFun := aFun 6 3 S_law_near
theorem fa_law_near {f : Addr} {fd : FuncData} (F : Fun K "_law_near" "_law_near" s_law_near f fd) (B : Bl mg)
    (C_law_take : CalA UrnAt P w K mg base "_law_take" 1 ["urn", "size"] A_law_take)
    (C_law_whole : CalA UrnAt P w K mg base "_law_whole" 2 ["urn", "world"] A_law_whole)
    (C_law_one : CalA UrnAt P w K mg base "_law_one" 2 ["urn", "items"] A_law_one) : FA UrnAt P w K mg base 3 f fd ["urn", "line", "world"] A_law_near := by
  obtain ⟨f_law_take, fd_law_take, F_law_take, m_law_take, k_law_take, b_law_take⟩ := C_law_take.ex
  obtain ⟨f_law_whole, fd_law_whole, F_law_whole, m_law_whole, k_law_whole, b_law_whole⟩ := C_law_whole.ex
  obtain ⟨f_law_one, fd_law_one, F_law_one, m_law_one, k_law_one, b_law_one⟩ := C_law_one.ex
  exact fa_of (k := 2) F sc_law_near (by decide) (fun cdv A outer sh H E b => pssa_cons (psa_set (i := 3) sc_law_near.nd rfl (Or.inl rfl) (pea_call F_law_take b (by decide) rfl m_law_take k_law_take b_law_take (paa_cons (apv 0) (paa_cons (pea_callB cl_len o_len (by rfl) B.len PySem.boot_len (paa_cons (apv 1) paa_nil)) paa_nil)))) (pssa_cons (psa_set (i := 4) sc_law_near.nd rfl (Or.inl rfl) (pea_ifExp (pta_cmp op_notN o_isnot (pea_ix (apv 1) (apv 3) (fun _ _ => rfl)) pea_non (nomark _)) (pea_ix (apv 1) (apv 3) (fun _ _ => rfl)) (pea_call F_law_whole b (by decide) rfl m_law_whole k_law_whole b_law_whole (paa_cons (apv 0) (paa_cons (apv 2) paa_nil))))) (pssa_cons (psa_set (i := 5) sc_law_near.nd rfl (Or.inl rfl) (pea_op op_addA o_add (pea_op op_addA o_add (pea_sl (apv 1) poa_none (poa_some (apv 3))) (pea_tup (paa_cons (pea_call F_law_one b (by decide) rfl m_law_one k_law_one b_law_one (paa_cons (apv 0) (paa_cons (pea_of (pel_lst (paa_cons (pea_op op_addA o_add (apv 4) pea_int) (paa_cons (pea_op op_sub o_sub (apv 4) pea_int) (paa_cons (apv 4) (paa_cons pea_non (paa_cons (pea_op op_addA o_add (apv 4) (pea_call F_law_whole b (by decide) rfl m_law_whole k_law_whole b_law_whole (paa_cons (apv 0) (paa_cons (apv 2) paa_nil)))) paa_nil))))))) paa_nil))) paa_nil))) (pea_sl (apv 1) (poa_some (pea_op op_addA o_add (apv 3) pea_int)) poa_none))) (pssa_one (psa_ret (pea_ifExp (pta_cmp (op_neA b.hu) o_ne (apv 5) (pea_op op_mulA o_mul (pea_tup (paa_cons pea_non paa_nil)) (pea_callB cl_len o_len (by rfl) B.len PySem.boot_len (paa_cons (apv 1) paa_nil))) (nomark _)) (apv 5) (apv 1)))))))
/-! ### is_in -/
abbrev N_is_in : List Str := ["lot", "row"]
theorem sc_is_in : FnScope N_is_in ["lot", "row"] (defScope s_is_in) := ⟨rfl, rfl, rfl, by decide +kernel, rfl, by decide +kernel, by decide +kernel⟩
def S_is_in : AS := sSeq (sDrop (aCall A_ask_as_many (aCons (aBin fIx (aVar 0) (aVal (.int 0))) (aCons (aCB fLen (aCons (aVar 1) aNil)) aNil)))) (sRet (aCall A_is_made_of (aCons (aBin fIx (aVar 0) (aVal (.int 1))) (aCons (aVar 1) aNil))))
abbrev A_is_in : AFun := aFun 2 2 S_is_in
theorem fa_is_in {f : Addr} {fd : FuncData} (F : Fun K "is_in" "is_in" s_is_in f fd) (B : Bl mg)
    (C_ask_as_many : CalA UrnAt P w K mg base "ask_as_many" 1 ["one_places", "other_places"] A_ask_as_many)
    (C_is_made_of : CalA UrnAt P w K mg base "is_made_of" 3 ["rows", "row"] A_is_made_of) : FA UrnAt P w K mg base 4 f fd ["lot", "row"] A_is_in := by
  obtain ⟨f_ask_as_many, fd_ask_as_many, F_ask_as_many, m_ask_as_many, k_ask_as_many, b_ask_as_many⟩ := C_ask_as_many.ex
  obtain ⟨f_is_made_of, fd_is_made_of, F_is_made_of, m_is_made_of, k_is_made_of, b_is_made_of⟩ := C_is_made_of.ex
  exact fa_of (k := 3) F sc_is_in (by decide) (fun cdv A outer sh H E b => pssa_cons (psa_expr (pea_call F_ask_as_many b (by decide) rfl m_ask_as_many k_ask_as_many b_ask_as_many (paa_cons (pea_ix (apv 0) pea_int (fun _ _ => rfl)) (paa_cons (pea_callB cl_len o_len (by rfl) B.len PySem.boot_len (paa_cons (apv 1) paa_nil)) paa_nil)))) (pssa_one (psa_ret (pea_call F_is_made_of b (by decide) rfl m_is_made_of k_is_made_of b_is_made_of (paa_cons (pea_ix (apv 0) pea_int (fun _ _ => rfl)) (paa_cons (apv 1) paa_nil))))))
/-! ### _law_is_right -/
abbrev N_law_is_right : List Str := ["urn", "rows", "line", "world", "wide", "due", "cut", "turned", "known", "far", "found"]
theorem sc_law_is_right : FnScope N_law_is_right ["urn", "rows", "line", "world"] (defScope s_law_is_right) := ⟨rfl, rfl, rfl, by decide +kernel, rfl, by decide +kernel, by decide +kernel⟩
def S_law_is_right : AS := sSeq (sPar3 4 5 6 (aCons (aCB fLen (aCons (aVar 2) aNil)) (aCons (aCall A_law_is_made (aCons (aVar 1) (aCons (aVar 2) aNil))) (aCons (aCall A_law_take (aCons (aVar 0) (aCons (aBin fAdd (aCB fLen (aCons (aVar 1) aNil)) (aVal (.int 1))) aNil))) aNil)))) (sSeq (sPar2 7 8 (aCons (aBin fAdd (aSl (aVar 1) (aPart (aVar 6)) aNoPart) (aSl (aVar 1) aNoPart (aPart (aVar 6)))) (aCons (aCB fRepr (aCons (aOf (aLst (aCons (aVar 1) (aCons (aVar 2) aNil)))) aNil)) aNil))) (sSeq (sSet 9 (aCall A_law_plus (aCons (aVar 2) (aCons (aCall A_law_whole (aCons (aVar 0) (aCons (aVar 3) aNil))) aNil)))) (sSeq (sSet 10 (aOf (aLst (aCons (aCall A_is_in (aCons (aTup (aCons (aVar 4) (aCons (aVar 1) aNil))) (aCons (aVar 2) aNil))) (aCons (aCall A_is_in (aCons (aTup (aCons (aVar 4) (aCons (aVar 1) aNil))) (aCons (aVar 9) aNil))) (aCons (aCallK A_is_in (g2s []) (aCons (aVar 2) (aCons (aTup (aCons (aVar 4) (aCons (aVar 7) aNil))) aNil))) aNil)))))) (sSeq (sSet 10 (aBin fAdd (aVar 10) (aOf (aLst (aCons (aCall A_is_in (aCons (aTup (aCons (aVar 4) (aCons (aBin fAdd (aVar 7) (aSl (aVar 1) aNoPart (aPart (aVar 6)))) aNil))) (aCons (aVar 2) aNil))) (aCons (aCall A_is_in (aCons (aTup (aCons (aVar 4) (aCons (aVar 1) aNil))) (aCons (aVar 2) aNil))) aNil)))))) (sSeq (sSet 10 (aBin fAdd (aVar 10) (aOf (aLst (aCons (aCall A_is_in (aCons (aTup (aCons (aVar 4) (aCons (aBin fAdd (aVar 7) (aTup (aCons (aVar 9) aNil))) aNil))) (aCons (aVar 2) aNil))) (aCons (aCall A_is_in (aCons (aTup (aCons (aVar 4) (aCons (aTup (aCons (aVar 9) aNil)) aNil))) (aCons (aVar 2) aNil))) aNil)))))) (sRet (aBin (fEq false) (aCB fRepr (aCons (aOf (aLst (aCons (aVar 10) (aCons (aCB fRepr (aCons (aOf (aLst (aCons (aVar 1) (aCons (aVar 2) aNil)))) aNil)) aNil)))) aNil)) (aCB fRepr (aCons (aOf (aLst (aCons (aBin fAdd (aBin fMul (aOf (aLst (aCons (aVar 5) aNil))) (aVal (.int 5))) (aOf (aLst (aCons (aVal (.bool true)) (aCons (aVal (.bool true)) aNil))))) (aCons (aVar 8) aNil)))) aNil)))))))))
abbrev A_law_is_right : AFun := aFun 11 4 S_law_is_right
theorem fa_law_is_right {f : Addr} {fd : FuncData} (F : Fun K "_law_is_right" "_law_is_right" s_law_is_right f fd) (B : Bl mg) (St : StatAt base)
    (C_law_plus : CalA UrnAt P w K mg base "_law_plus" 1 ["line", "much"] A_law_plus)
    (C_law_is_made : CalA UrnAt P w K mg base "_law_is_made" 2 ["rows", "line"] A_law_is_made)
    (C_law_take : CalA UrnAt P w K mg base "_law_take" 1 ["urn", "size"] A_law_take)
    (C_law_whole : CalA UrnAt P w K mg base "_law_whole" 2 ["urn", "world"] A_law_whole)
    (C_is_in : CalA UrnAt P w K mg base "is_in" 4 ["lot", "row"] A_is_in)
    (D_is_in_s : CalKA UrnAt P w K mg base "is_in" 4 ["lot", "row"] ["row", "lot"] g2s g2s A_is_in) : FA UrnAt P w K mg base 5 f fd ["urn", "rows", "line", "world"] A_law_is_right := by
  obtain ⟨f_law_plus, fd_law_plus, F_law_plus, m_law_plus, k_law_plus, b_law_plus⟩ := C_law_plus.ex
  obtain ⟨f_law_is_made, fd_law_is_made, F_law_is_made, m_law_is_made, k_law_is_made, b_law_is_made⟩ := C_law_is_made.ex
  obtain ⟨f_law_take, fd_law_take, F_law_take, m_law_take, k_law_take, b_law_take⟩ := C_law_take.ex
  obtain ⟨f_law_whole, fd_law_whole, F_law_whole, m_law_whole, k_law_whole, b_law_whole⟩ := C_law_whole.ex
  obtain ⟨f_is_in, fd_is_in, F_is_in, m_is_in, k_is_in, b_is_in⟩ := C_is_in.ex
  obtain ⟨fK_is_in_s, fdK_is_in_s, FK_is_in_s, mK_is_in_s, kK_is_in_s, bK_is_in_s⟩ := D_is_in_s.ex
  exact fa_of (k := 4) F sc_law_is_right (by decide) (fun cdv A outer sh H E b => pssa_cons (psa_par3 (i := 4) (j := 5) (l := 6) rfl sc_law_is_right.nd rfl rfl rfl (by decide) (by decide) (by decide) rfl rfl rfl (paa_cons (pea_callB cl_len o_len (by rfl) B.len PySem.boot_len (paa_cons (apv 2) paa_nil)) (paa_cons (pea_call F_law_is_made b (by decide) rfl m_law_is_made k_law_is_made b_law_is_made (paa_cons (apv 1) (paa_cons (apv 2) paa_nil))) (paa_cons (pea_call F_law_take b (by decide) rfl m_law_take k_law_take b_law_take (paa_cons (apv 0) (paa_cons (pea_op op_addA o_add (pea_callB cl_len o_len (by rfl) B.len PySem.boot_len (paa_cons (apv 1) paa_nil)) pea_int) paa_nil))) paa_nil))) (by rfl)) (pssa_cons (psa_par2 (i := 7) (j := 8) rfl sc_law_is_right.nd rfl rfl (by decide) rfl rfl (paa_cons (pea_op op_addA o_add (pea_sl (apv 1) (poa_some (apv 6)) poa_none) (pea_sl (apv 1) poa_none (poa_some (apv 6)))) (paa_cons (pea_callB (cl_repr b.hG b.hu St) o_repr (by rfl) B.repr (by decide +kernel) (paa_cons (pea_of (pel_lst (paa_cons (apv 1) (paa_cons (apv 2) paa_nil)))) paa_nil)) paa_nil)) (by rfl)) (pssa_cons (psa_set (i := 9) sc_law_is_right.nd rfl (Or.inl rfl) (pea_call F_law_plus b (by decide) rfl m_law_plus k_law_plus b_law_plus (paa_cons (apv 2) (paa_cons (pea_call F_law_whole b (by decide) rfl m_law_whole k_law_whole b_law_whole (paa_cons (apv 0) (paa_cons (apv 3) paa_nil))) paa_nil)))) (pssa_cons (psa_set (i := 10) sc_law_is_right.nd rfl (Or.inl rfl) (pea_of (pel_lst (paa_cons (pea_call F_is_in b (by decide) rfl m_is_in k_is_in b_is_in (paa_cons (pea_tup (paa_cons (apv 4) (paa_cons (apv 1) paa_nil))) (paa_cons (apv 2) paa_nil))) (paa_cons (pea_call F_is_in b (by decide) rfl m_is_in k_is_in b_is_in (paa_cons (pea_tup (paa_cons (apv 4) (paa_cons (apv 1) paa_nil))) (paa_cons (apv 9) paa_nil))) (paa_cons (pea_callK FK_is_in_s b (by decide) rfl mK_is_in_s kK_is_in_s bK_is_in_s g2sA (pka_cons (apv 2) (pka_cons (pea_tup (paa_cons (apv 4) (paa_cons (apv 7) paa_nil))) pka_nil))) paa_nil)))))) (pssa_cons (psa_set (i := 10) sc_law_is_right.nd rfl (Or.inl rfl) (pea_op op_addA o_add (apv 10) (pea_of (pel_lst (paa_cons (pea_call F_is_in b (by decide) rfl m_is_in k_is_in b_is_in (paa_cons (pea_tup (paa_cons (apv 4) (paa_cons (pea_op op_addA o_add (apv 7) (pea_sl (apv 1) poa_none (poa_some (apv 6)))) paa_nil))) (paa_cons (apv 2) paa_nil))) (paa_cons (pea_call F_is_in b (by decide) rfl m_is_in k_is_in b_is_in (paa_cons (pea_tup (paa_cons (apv 4) (paa_cons (apv 1) paa_nil))) (paa_cons (apv 2) paa_nil))) paa_nil)))))) (pssa_cons (psa_set (i := 10) sc_law_is_right.nd rfl (Or.inl rfl) (pea_op op_addA o_add (apv 10) (pea_of (pel_lst (paa_cons (pea_call F_is_in b (by decide) rfl m_is_in k_is_in b_is_in (paa_cons (pea_tup (paa_cons (apv 4) (paa_cons (pea_op op_addA o_add (apv 7) (pea_tup (paa_cons (apv 9) paa_nil))) paa_nil))) (paa_cons (apv 2) paa_nil))) (paa_cons (pea_call F_is_in b (by decide) rfl m_is_in k_is_in b_is_in (paa_cons (pea_tup (paa_cons (apv 4) (paa_cons (pea_tup (paa_cons (apv 9) paa_nil)) paa_nil))) (paa_cons (apv 2) paa_nil))) paa_nil)))))) (pssa_one (psa_ret (pea_cmp (op_eqA b.hu) o_eq (pea_callB (cl_repr b.hG b.hu St) o_repr (by rfl) B.repr (by decide +kernel) (paa_cons (pea_of (pel_lst (paa_cons (apv 10) (paa_cons (pea_callB (cl_repr b.hG b.hu St) o_repr (by rfl) B.repr (by decide +kernel) (paa_cons (pea_of (pel_lst (paa_cons (apv 1) (paa_cons (apv 2) paa_nil)))) paa_nil)) paa_nil)))) paa_nil)) (pea_callB (cl_repr b.hG b.hu St) o_repr (by rfl) B.repr (by decide +kernel) (paa_cons (pea_of (pel_lst (paa_cons (pea_op op_addA o_add (pea_op op_mulA o_mul (pea_of (pel_lst (paa_cons (apv 5) paa_nil))) pea_int) (pea_of (pel_lst (paa_cons pea_bl (paa_cons pea_bl paa_nil))))) (paa_cons (apv 8) paa_nil)))) paa_nil)) (nomark _))))))))))
/-! ### _law_of_two -/
abbrev N_law_of_two : List Str := ["urn", "world", "lows", "turn", "rows", "own", "ends", "more", "tests", "due", "found"]
theorem sc_law_of_two : FnScope N_law_of_two ["urn", "world"] (defScope s_law_of_two) := ⟨rfl, rfl, rfl, by decide +kernel, rfl, by decide +kernel, by decide +kernel⟩
def S_law_of_two_1 : AS := sSeq (sSet 9 (aAndV (aOrV (aBin fGe (aVar 5) (aBin fIx (aVar 2) (aVal (.int 0)))) (aBin (fIn false) (aVar 6) (aTup (aCons (aVal (.int 1)) (aCons (aVal (.int 3)) aNil))))) (aOrV (aBin fLe (aVar 5) (aBin fIx (aVar 2) (aUn fNeg (aVal (.int 1))))) (aBin (fIn false) (aVar 6) (aTup (aCons (aVal (.int 2)) (aCons (aVal (.int 3)) aNil))))))) (sIf (aTstB (aBin (fEq true) (aCB fRepr (aCons (aCall A_is_in (aCons (aTup (aCons (aVal (.int 2)) (aCons (aVar 4) aNil))) (aCons (aCall A_law_plus (aCons (aTup (aCons (aVal (.int 0)) (aCons (aVar 5) aNil))) (aCons (aCall A_law_whole (aCons (aVar 0) (aCons (aVar 1) aNil))) aNil))) aNil))) aNil)) (aCB fRepr (aCons (aVar 9) aNil)))) (sRet (aVal (.bool false))) sNext)
def S_law_of_two : AS := sSeq (sSet 2 (aCB fSorted (aCons (aOf (aLc [3] (aRng1 (aCons (aBin fAdd (aVal (.int 1)) (aCall A_law_take (aCons (aVar 0) (aCons (aVal (.int 5)) aNil)))) aNil)) (agName 3) aYes (aCall A_law_whole (aCons (aVar 0) (aCons (aVar 1) aNil))))) aNil))) (sSeq (sLst 4 (aLc [5] (aSeq (aVar 2)) (agName 5) aYes (aCall A_law_plus (aCons (aTup (aCons (aVal (.int 0)) (aCons (aVar 5) aNil))) (aCons (aCall A_law_whole (aCons (aVar 0) (aCons (aVar 1) aNil))) aNil))))) (sSeq (sSet 6 (aCall A_law_take (aCons (aVar 0) (aCons (aVal (.int 4)) aNil)))) (sSeq (sSet 7 (aBin fIx (aOf (aLst (aCons (aOf (aLst aNil)) (aCons (aOf (aLst (aCons (aTup (aCons (aCall A_law_whole (aCons (aVar 0) (aCons (aVar 1) aNil))) (aCons (aVal .none) aNil))) aNil))) (aCons (aOf (aLst (aCons (aTup (aCons (aVal .none) (aCons (aCall A_law_whole (aCons (aVar 0) (aCons (aVar 1) aNil))) aNil))) aNil))) (aCons (aOf (aLst (aCons (aTup (aCons (aVal (.int 0)) (aCons (aVal .none) aNil))) (aCons (aTup (aCons (aVal .none) (aCons (aVal (.int 0)) aNil))) aNil)))) aNil)))))) (aVar 6))) (sSeq (sSet 4 (aCB fTuple (aCons (aBin fAdd (aVar 7) (aRev (aVar 4))) aNil))) (sSeq (sSet 8 (aOf (aLst (aCons (aBin fIx (aVar 2) (aVal (.int 0))) (aCons (aBin fIx (aVar 2) (aUn fNeg (aVal (.int 1)))) (aCons (aBin fSub (aBin fIx (aVar 2) (aVal (.int 0))) (aVal (.int 1))) (aCons (aBin fAdd (aBin fIx (aVar 2) (aUn fNeg (aVal (.int 1)))) (aVal (.int 1))) (aCons (aBin fSub (aBin fIx (aVar 2) (aVal (.int 0))) (aBin fPow (aVal (.int 10)) (aVal (.int 9)))) (aCons (aBin fAdd (aBin fIx (aVar 2) (aUn fNeg (aVal (.int 1)))) (aBin fPow (aVal (.int 10)) (aVal (.int 9)))) aNil))))))))) (sSeq (sFor (aSeq (aBin fAdd (aVar 8) (aOf (aLst (aCons (aBin fDiv (aBin fAdd (aBin fIx (aVar 2) (aVal (.int 0))) (aBin fIx (aVar 2) (aUn fNeg (aVal (.int 1))))) (aVal (.int 2))) (aCons (aCall A_law_whole (aCons (aVar 0) (aCons (aVar 1) aNil))) aNil)))))) (agName 5) S_law_of_two_1) (sSeq (sSet 10 (aOf (aLst (aCons (aCall A_is_in (aCons (aTup (aCons (aVal (.int 2)) (aCons (aVar 4) aNil))) (aCons (aTup (aCons (aVal (.int 7)) (aCons (aVal .none) aNil))) aNil))) (aCons (aCall A_is_in (aCons (aTup (aCons (aVal (.int 2)) (aCons (aVar 4) aNil))) (aCons (aTup (aCons (aVal .none) (aCons (aUn fNeg (aVal (.int 7))) aNil))) aNil))) aNil))))) (sRet (aBin (fEq false) (aCB fRepr (aCons (aVar 10) aNil)) (aCB fRepr (aCons (aOf (aLst (aCons (aBin (fIn false) (aVar 6) (aTup (aCons (aVal (.int 1)) (aCons (aVal (.int 3)) aNil)))) (aCons (aBin (fIn false) (aVar 6) (aTup (aCons (aVal (.int 2)) (aCons (aVal (.int 3)) aNil)))) aNil)))) aNil)))))))))))
abbrev A_law_of_two : AFun := aFun 11 2 S_law_of_two
theorem fa_law_of_two {f : Addr} {fd : FuncData} (F : Fun K "_law_of_two" "_law_of_two" s_law_of_two f fd) (B : Bl mg) (St : StatAt base)
    (C_law_take : CalA UrnAt P w K mg base "_law_take" 1 ["urn", "size"] A_law_take)
    (C_law_plus : CalA UrnAt P w K mg base "_law_plus" 1 ["line", "much"] A_law_plus)
    (C_is_in : CalA UrnAt P w K mg base "is_in" 4 ["lot", "row"] A_is_in)
    (C_law_whole : CalA UrnAt P w K mg base "_law_whole" 2 ["urn", "world"] A_law_whole) : FA UrnAt P w K mg base 5 f fd ["urn", "world"] A_law_of_two := by
  obtain ⟨f_law_take, fd_law_take, F_law_take, m_law_take, k_law_take, b_law_take⟩ := C_law_take.ex
  obtain ⟨f_law_plus, fd_law_plus, F_law_plus, m_law_plus, k_law_plus, b_law_plus⟩ := C_law_plus.ex
  obtain ⟨f_is_in, fd_is_in, F_is_in, m_is_in, k_is_in, b_is_in⟩ := C_is_in.ex
  obtain ⟨f_law_whole, fd_law_whole, F_law_whole, m_law_whole, k_law_whole, b_law_whole⟩ := C_law_whole.ex
  exact fa_of (k := 4) F sc_law_of_two (by decide) (fun cdv A outer sh H E b => pssa_cons (psa_set (i := 2) sc_law_of_two.nd rfl (Or.inl rfl) (pea_callB cr_sortedI o_sorted (by rfl) B.sorted (by decide +kernel) (paa_cons (pea_of (pel_lc (own := [("turn", 3)]) rfl sc_law_of_two.nd (pia_range1 rfl B.range (paa_cons (pea_op op_addA o_add pea_int (pea_call F_law_take b (by decide) rfl m_law_take k_law_take b_law_take (paa_cons (apv 0) (paa_cons pea_int paa_nil)))) paa_nil)) (blkOk_by (N := N_law_of_two) (sc := defScope s_law_of_two) (by decide +kernel)) (fun _ _ _ _ _ => pga_name (i := 3) sc_law_of_two.nd rfl (Or.inl rfl)) (fun _ _ _ _ _ => ptsa_nil) (fun _ _ _ _ _ => pea_call F_law_whole b.blk (by decide) rfl m_law_whole k_law_whole b_law_whole (paa_cons (apv 0) (paa_cons (apv 1) paa_nil))))) paa_nil))) (pssa_cons (psa_lcD (i := 4) (own := [("own", 5)]) rfl sc_law_of_two.nd rfl rfl (sw_true rfl rfl rfl (by decide +kernel)) (pia_seq (apv 2)) (blkOk_by (N := N_law_of_two) (sc := defScope s_law_of_two) (by decide +kernel)) (fun _ _ _ _ _ => pga_name (i := 5) sc_law_of_two.nd rfl (Or.inl rfl)) (fun _ _ _ _ _ => ptsa_nil) (fun _ _ _ _ _ => pea_call F_law_plus b.blk (by decide) rfl m_law_plus k_law_plus b_law_plus (paa_cons (pea_tup (paa_cons pea_int (paa_cons (apv 5) paa_nil))) (paa_cons (pea_call F_law_whole b.blk (by decide) rfl m_law_whole k_law_whole b_law_whole (paa_cons (apv 0) (paa_cons (apv 1) paa_nil))) paa_nil)))) (pssa_cons (psa_set (i := 6) sc_law_of_two.nd rfl (Or.inl rfl) (pea_call F_law_take b (by decide) rfl m_law_take k_law_take b_law_take (paa_cons (apv 0) (paa_cons pea_int paa_nil)))) (pssa_cons (psa_set (i := 7) sc_law_of_two.nd rfl (Or.inl rfl) (pea_ix (pea_of (pel_lst (paa_cons (pea_of (pel_lst paa_nil)) (paa_cons (pea_of (pel_lst (paa_cons (pea_tup (paa_cons (pea_call F_law_whole b (by decide) rfl m_law_whole k_law_whole b_law_whole (paa_cons (apv 0) (paa_cons (apv 1) paa_nil))) (paa_cons pea_non paa_nil))) paa_nil))) (paa_cons (pea_of (pel_lst (paa_cons (pea_tup (paa_cons pea_non (paa_cons (pea_call F_law_whole b (by decide) rfl m_law_whole k_law_whole b_law_whole (paa_cons (apv 0) (paa_cons (apv 1) paa_nil))) paa_nil))) paa_nil))) (paa_cons (pea_of (pel_lst (paa_cons (pea_tup (paa_cons pea_int (paa_cons pea_non paa_nil))) (paa_cons (pea_tup (paa_cons pea_non (paa_cons pea_int paa_nil))) paa_nil)))) paa_nil)))))) (apv 6) (fun _ _ => rfl))) (pssa_cons (psa_set (i := 4) sc_law_of_two.nd rfl (Or.inl rfl) (pea_callTy call_tuple_of o_tuple (by rfl) B.tuple (by decide +kernel) (paa_cons (pea_op op_addA o_add (apv 7) (pea_rev (apv 4))) paa_nil))) (pssa_cons (psa_set (i := 8) sc_law_of_two.nd rfl (Or.inl rfl) (pea_of (pel_lst (paa_cons (pea_ix (apv 2) pea_int (fun _ _ => rfl)) (paa_cons (pea_ix (apv 2) (pea_un un_neg o_neg pea_int) (fun _ _ => rfl)) (paa_cons (pea_op op_sub o_sub (pea_ix (apv 2) pea_int (fun _ _ => rfl)) pea_int) (paa_cons (pea_op op_addA o_add (pea_ix (apv 2) (pea_un un_neg o_neg pea_int) (fun _ _ => rfl)) pea_int) (paa_cons (pea_op op_sub o_sub (pea_ix (apv 2) pea_int (fun _ _ => rfl)) (pea_op op_powW o_pow pea_int pea_int)) (paa_cons (pea_op op_addA o_add (pea_ix (apv 2) (pea_un un_neg o_neg pea_int) (fun _ _ => rfl)) (pea_op op_powW o_pow pea_int pea_int)) paa_nil))))))))) (pssa_cons (psa_for b.hp rfl (pia_seq (pea_op op_addA o_add (apv 8) (pea_of (pel_lst (paa_cons (pea_op op_divA o_div (pea_op op_addA o_add (pea_ix (apv 2) pea_int (fun _ _ => rfl)) (pea_ix (apv 2) (pea_un un_neg o_neg pea_int) (fun _ _ => rfl))) pea_int) (paa_cons (pea_call F_law_whole b (by decide) rfl m_law_whole k_law_whole b_law_whole (paa_cons (apv 0) (paa_cons (apv 1) paa_nil))) paa_nil)))))) (pga_name (i := 5) sc_law_of_two.nd rfl (Or.inl rfl)) (pssa_cons (psa_set (i := 9) sc_law_of_two.nd rfl (Or.inl rfl) (pea_and (pea_or (pea_cmp op_ge o_ge (apv 5) (pea_ix (apv 2) pea_int (fun _ _ => rfl)) (nomark _)) (pea_one (pea_cmp op_in_seq o_in (apv 6) (pea_tup (paa_cons pea_int (paa_cons pea_int paa_nil))) (by rfl)))) (pea_one (pea_or (pea_cmp op_le o_le (apv 5) (pea_ix (apv 2) (pea_un un_neg o_neg pea_int) (fun _ _ => rfl)) (nomark _)) (pea_one (pea_cmp op_in_seq o_in (apv 6) (pea_tup (paa_cons pea_int (paa_cons pea_int paa_nil))) (by rfl))))))) (pssa_one (psa_if (pta_cmp (op_neA b.hu) o_ne (pea_callB (cl_repr b.hG b.hu St) o_repr (by rfl) B.repr (by decide +kernel) (paa_cons (pea_call F_is_in b (by decide) rfl m_is_in k_is_in b_is_in (paa_cons (pea_tup (paa_cons pea_int (paa_cons (apv 4) paa_nil))) (paa_cons (pea_call F_law_plus b (by decide) rfl m_law_plus k_law_plus b_law_plus (paa_cons (pea_tup (paa_cons pea_int (paa_cons (apv 5) paa_nil))) (paa_cons (pea_call F_law_whole b (by decide) rfl m_law_whole k_law_whole b_law_whole (paa_cons (apv 0) (paa_cons (apv 1) paa_nil))) paa_nil))) paa_nil))) paa_nil)) (pea_callB (cl_repr b.hG b.hu St) o_repr (by rfl) B.repr (by decide +kernel) (paa_cons (apv 9) paa_nil)) (nomark _)) (pssa_one (psa_ret pea_bl)) pssa_nil)))) (pssa_cons (psa_set (i := 10) sc_law_of_two.nd rfl (Or.inl rfl) (pea_of (pel_lst (paa_cons (pea_call F_is_in b (by decide) rfl m_is_in k_is_in b_is_in (paa_cons (pea_tup (paa_cons pea_int (paa_cons (apv 4) paa_nil))) (paa_cons (pea_tup (paa_cons pea_int (paa_cons pea_non paa_nil))) paa_nil))) (paa_cons (pea_call F_is_in b (by decide) rfl m_is_in k_is_in b_is_in (paa_cons (pea_tup (paa_cons pea_int (paa_cons (apv 4) paa_nil))) (paa_cons (pea_tup (paa_cons pea_non (paa_cons (pea_un un_neg o_neg pea_int) paa_nil))) paa_nil))) paa_nil))))) (pssa_one (psa_ret (pea_cmp (op_eqA b.hu) o_eq (pea_callB (cl_repr b.hG b.hu St) o_repr (by rfl) B.repr (by decide +kernel) (paa_cons (apv 10) paa_nil)) (pea_callB (cl_repr b.hG b.hu St) o_repr (by rfl) B.repr (by decide +kernel) (paa_cons (pea_of (pel_lst (paa_cons (pea_cmp op_in_seq o_in (apv 6) (pea_tup (paa_cons pea_int (paa_cons pea_int paa_nil))) (by rfl)) (paa_cons (pea_cmp op_in_seq o_in (apv 6) (pea_tup (paa_cons pea_int (paa_cons pea_int paa_nil))) (by rfl)) paa_nil)))) paa_nil)) (nomark _))))))))))))
/-! ### _law_of_many -/
abbrev N_law_of_many : List Str := ["urn", "many", "by", "rows", "k", "line", "at", "less", "left", "right", "one", "other"]
theorem sc_law_of_many : FnScope N_law_of_many ["urn"] (defScope s_law_of_many) := ⟨rfl, rfl, rfl, by decide +kernel, rfl, by decide +kernel, by decide +kernel⟩
def S_law_of_many_1 : AS := sSeq (sSet 7 (aTup (aCons (aVal (.int 3)) (aCons (aBin fAdd (aSl (aVar 3) aNoPart (aPart (aVar 6))) (aSl (aVar 3) (aPart (aBin fAdd (aVar 6) (aVal (.int 1)))) aNoPart)) aNil)))) (sIf (aTstB (aBin (fEq true) (aCB fRepr (aCons (aOf (aLst (aCons (aCall A_is_in (aCons (aVar 7) (aCons (aBin fIx (aVar 3) (aVar 6)) aNil))) (aCons (aCall A_is_in (aCons (aTup (aCons (aVal (.int 3)) (aCons (aVar 3) aNil))) (aCons (aBin fIx (aVar 3) (aVar 6)) aNil))) aNil)))) aNil)) (aVal (.str "[False, True]")))) (sRet (aVal (.bool false))) sNext)
def S_law_of_many : AS := sSeq (sAsg (aTup (aCons (aCall A_law_one (aCons (aVar 0) (aCons (aOf (aLst (aCons (aVal (.int 40)) (aCons (aVal (.int 40)) (aCons (aBin fAdd (aVal (.int 2)) (aCall A_law_take (aCons (aVar 0) (aCons (aVal (.int 39)) aNil)))) aNil))))) aNil))) (aCons (aCall A_law_one (aCons (aVar 0) (aCons (aOf (aLst (aCons (aVal (.int 1)) (aCons (aVal (.int 3)) (aCons (aBin fPow (aBin fPow (aVal (.int 10)) (aVal (.int 60))) (aVal (.int 13))) aNil))))) aNil))) aNil))) (agTup 2 (agCons (agName 1) (agCons (agName 2) agNil)))) (sSeq (sSet 3 (aCB fTuple (aCons (aOf (aLc [4] (aRng1 (aCons (aVar 1) aNil)) (agName 4) aYes (aTup (aCons (aVal (.int 0)) (aCons (aBin fMul (aVar 2) (aVar 4)) (aCons (aBin fMul (aBin fMul (aVar 2) (aVar 4)) (aVar 4)) aNil)))))) aNil))) (sSeq (sSet 3 (aCB fTuple (aCons (aOf (aLc [5] (aSeq (aVar 3)) (agName 5) aYes (aCall A_law_plus (aCons (aVar 5) (aCons (aCall A_law_take (aCons (aVar 0) (aCons (aVal (.int 9)) aNil))) aNil))))) aNil))) (sSeq (sFor (aSeq (aTup (aCons (aBin fSub (aVar 1) (aVal (.int 1))) (aCons (aVal (.int 0)) (aCons (aCall A_law_take (aCons (aVar 0) (aCons (aVar 1) aNil))) aNil))))) (agName 6) S_law_of_many_1) (sSeq (sPar2 8 9 (aCons (aBin fIx (aVar 3) (aCall A_law_take (aCons (aVar 0) (aCons (aVar 1) aNil)))) (aCons (aBin fIx (aVar 3) (aCall A_law_take (aCons (aVar 0) (aCons (aVar 1) aNil)))) aNil))) (sSeq (sSet 5 (aCB fTuple (aCons (aOf (aLc [10, 11] (aZip (aCons (aVar 8) (aCons (aVar 9) aNil))) (agTup 2 (agCons (agName 10) (agCons (agName 11) agNil))) aYes (aCall A_law_more (aCons (aVar 10) (aCons (aVar 11) aNil))))) aNil))) (sRet (aBin (fEq false) (aCB fRepr (aCons (aOf (aLst (aCons (aCall A_is_in (aCons (aTup (aCons (aVal (.int 3)) (aCons (aVar 3) aNil))) (aCons (aVar 5) aNil))) (aCons (aCall A_is_in (aCons (aTup (aCons (aVal (.int 3)) (aCons (aVar 3) aNil))) (aCons (aBin fAdd (aSl (aVar 5) aNoPart (aPart (aVal (.int 2)))) (aTup (aCons (aVal .none) aNil))) aNil))) aNil)))) aNil)) (aVal (.str "[True, False]")))))))))
abbrev A_law_of_many : AFun := aFun 12 1 S_law_of_many
theorem fa_law_of_many {f : Addr} {fd : FuncData} (F : Fun K "_law_of_many" "_law_of_many" s_law_of_many f fd) (B : Bl mg) (St : StatAt base)
    (C_law_one : CalA UrnAt P w K mg base "_law_one" 2 ["urn", "items"] A_law_one)
    (C_law_take : CalA UrnAt P w K mg base "_law_take" 1 ["urn", "size"] A_law_take)
    (C_law_plus : CalA UrnAt P w K mg base "_law_plus" 1 ["line", "much"] A_law_plus)
    (C_law_more : CalA UrnAt P w K mg base "_law_more" 1 ["one", "other"] A_law_more)
    (C_is_in : CalA UrnAt P w K mg base "is_in" 4 ["lot", "row"] A_is_in) : FA UrnAt P w K mg base 5 f fd ["urn"] A_law_of_many := by
  obtain ⟨f_law_one, fd_law_one, F_law_one, m_law_one, k_law_one, b_law_one⟩ := C_law_one.ex
  obtain ⟨f_law_take, fd_law_take, F_law_take, m_law_take, k_law_take, b_law_take⟩ := C_law_take.ex
  obtain ⟨f_law_plus, fd_law_plus, F_law_plus, m_law_plus, k_law_plus, b_law_plus⟩ := C_law_plus.ex
  obtain ⟨f_law_more, fd_law_more, F_law_more, m_law_more, k_law_more, b_law_more⟩ := C_law_more.ex
  obtain ⟨f_is_in, fd_is_in, F_is_in, m_is_in, k_is_in, b_is_in⟩ := C_is_in.ex
  exact fa_of (k := 4) F sc_law_of_many (by decide) (fun cdv A outer sh H E b => pssa_cons (psa_asg (pea_tup (paa_cons (pea_call F_law_one b (by decide) rfl m_law_one k_law_one b_law_one (paa_cons (apv 0) (paa_cons (pea_of (pel_lst (paa_cons pea_int (paa_cons pea_int (paa_cons (pea_op op_addA o_add pea_int (pea_call F_law_take b (by decide) rfl m_law_take k_law_take b_law_take (paa_cons (apv 0) (paa_cons pea_int paa_nil)))) paa_nil))))) paa_nil))) (paa_cons (pea_call F_law_one b (by decide) rfl m_law_one k_law_one b_law_one (paa_cons (apv 0) (paa_cons (pea_of (pel_lst (paa_cons pea_int (paa_cons pea_int (paa_cons (pea_op op_powW o_pow (pea_op op_powW o_pow pea_int pea_int) pea_int) paa_nil))))) paa_nil))) paa_nil))) (pga_tup rfl (pgsa_cons (pga_name (i := 1) sc_law_of_many.nd rfl (Or.inl rfl)) (pgsa_cons (pga_name (i := 2) sc_law_of_many.nd rfl (Or.inr rfl)) pgsa_nil)))) (pssa_cons (psa_set (i := 3) sc_law_of_many.nd rfl (Or.inl rfl) (pea_callTy call_tuple_of o_tuple (by rfl) B.tuple (by decide +kernel) (paa_cons (pea_of (pel_lc (own := [("k", 4)]) rfl sc_law_of_many.nd (pia_range1 rfl B.range (paa_cons (apv 1) paa_nil)) (blkOk_by (N := N_law_of_many) (sc := defScope s_law_of_many) (by decide +kernel)) (fun _ _ _ _ _ => pga_name (i := 4) sc_law_of_many.nd rfl (Or.inl rfl)) (fun _ _ _ _ _ => ptsa_nil) (fun _ _ _ _ _ => pea_tup (paa_cons pea_int (paa_cons (pea_op op_mulA o_mul (apv 2) (apv 4)) (paa_cons (pea_op op_mulA o_mul (pea_op op_mulA o_mul (apv 2) (apv 4)) (apv 4)) paa_nil)))))) paa_nil))) (pssa_cons (psa_set (i := 3) sc_law_of_many.nd rfl (Or.inl rfl) (pea_callTy call_tuple_of o_tuple (by rfl) B.tuple (by decide +kernel) (paa_cons (pea_of (pel_lc (own := [("line", 5)]) rfl sc_law_of_many.nd (pia_seq (apv 3)) (blkOk_by (N := N_law_of_many) (sc := defScope s_law_of_many) (by decide +kernel)) (fun _ _ _ _ _ => pga_name (i := 5) sc_law_of_many.nd rfl (Or.inl rfl)) (fun _ _ _ _ _ => ptsa_nil) (fun _ _ _ _ _ => pea_call F_law_plus b.blk (by decide) rfl m_law_plus k_law_plus b_law_plus (paa_cons (apv 5) (paa_cons (pea_call F_law_take b.blk (by decide) rfl m_law_take k_law_take b_law_take (paa_cons (apv 0) (paa_cons pea_int paa_nil))) paa_nil))))) paa_nil))) (pssa_cons (psa_for b.hp rfl (pia_seq (pea_tup (paa_cons (pea_op op_sub o_sub (apv 1) pea_int) (paa_cons pea_int (paa_cons (pea_call F_law_take b (by decide) rfl m_law_take k_law_take b_law_take (paa_cons (apv 0) (paa_cons (apv 1) paa_nil))) paa_nil))))) (pga_name (i := 6) sc_law_of_many.nd rfl (Or.inl rfl)) (pssa_cons (psa_set (i := 7) sc_law_of_many.nd rfl (Or.inl rfl) (pea_tup (paa_cons pea_int (paa_cons (pea_op op_addA o_add (pea_sl (apv 3) poa_none (poa_some (apv 6))) (pea_sl (apv 3) (poa_some (pea_op op_addA o_add (apv 6) pea_int)) poa_none)) paa_nil)))) (pssa_one (psa_if (pta_cmp (op_neA b.hu) o_ne (pea_callB (cl_repr b.hG b.hu St) o_repr (by rfl) B.repr (by decide +kernel) (paa_cons (pea_of (pel_lst (paa_cons (pea_call F_is_in b (by decide) rfl m_is_in k_is_in b_is_in (paa_cons (apv 7) (paa_cons (pea_ix (apv 3) (apv 6) (fun _ _ => rfl)) paa_nil))) (paa_cons (pea_call F_is_in b (by decide) rfl m_is_in k_is_in b_is_in (paa_cons (pea_tup (paa_cons pea_int (paa_cons (apv 3) paa_nil))) (paa_cons (pea_ix (apv 3) (apv 6) (fun _ _ => rfl)) paa_nil))) paa_nil)))) paa_nil)) pea_str (nomark _)) (pssa_one (psa_ret pea_bl)) pssa_nil)))) (pssa_cons (psa_par2 (i := 8) (j := 9) rfl sc_law_of_many.nd rfl rfl (by decide) rfl rfl (paa_cons (pea_ix (apv 3) (pea_call F_law_take b (by decide) rfl m_law_take k_law_take b_law_take (paa_cons (apv 0) (paa_cons (apv 1) paa_nil))) (fun _ _ => rfl)) (paa_cons (pea_ix (apv 3) (pea_call F_law_take b (by decide) rfl m_law_take k_law_take b_law_take (paa_cons (apv 0) (paa_cons (apv 1) paa_nil))) (fun _ _ => rfl)) paa_nil)) (by rfl)) (pssa_cons (psa_set (i := 5) sc_law_of_many.nd rfl (Or.inl rfl) (pea_callTy call_tuple_of o_tuple (by rfl) B.tuple (by decide +kernel) (paa_cons (pea_of (pel_lc (own := [("one", 10), ("other", 11)]) rfl sc_law_of_many.nd (pia_zip rfl B.zip (paa_cons (apv 8) (paa_cons (apv 9) paa_nil))) (blkOk_by (N := N_law_of_many) (sc := defScope s_law_of_many) (by decide +kernel)) (fun _ _ _ _ _ => pga_tup rfl (pgsa_cons (pga_name (i := 10) sc_law_of_many.nd rfl (Or.inl rfl)) (pgsa_cons (pga_name (i := 11) sc_law_of_many.nd rfl (Or.inl rfl)) pgsa_nil))) (fun _ _ _ _ _ => ptsa_nil) (fun _ _ _ _ _ => pea_call F_law_more b.blk (by decide) rfl m_law_more k_law_more b_law_more (paa_cons (apv 10) (paa_cons (apv 11) paa_nil))))) paa_nil))) (pssa_one (psa_ret (pea_cmp (op_eqA b.hu) o_eq (pea_callB (cl_repr b.hG b.hu St) o_repr (by rfl) B.repr (by decide +kernel) (paa_cons (pea_of (pel_lst (paa_cons (pea_call F_is_in b (by decide) rfl m_is_in k_is_in b_is_in (paa_cons (pea_tup (paa_cons pea_int (paa_cons (apv 3) paa_nil))) (paa_cons (apv 5) paa_nil))) (paa_cons (pea_call F_is_in b (by decide) rfl m_is_in k_is_in b_is_in (paa_cons (pea_tup (paa_cons pea_int (paa_cons (apv 3) paa_nil))) (paa_cons (pea_op op_addA o_add (pea_sl (apv 5) poa_none (poa_some pea_int)) (pea_tup (paa_cons pea_non paa_nil))) paa_nil))) paa_nil)))) paa_nil)) pea_str (nomark _))))))))))
/-! ### _law_is_unfit -/
abbrev N_law_is_unfit : List Str := ["rows", "wide", "line"]
theorem sc_law_is_unfit : FnScope N_law_is_unfit ["rows", "wide", "line"] (defScope s_law_is_unfit) := ⟨rfl, rfl, rfl, by decide +kernel, rfl, by decide +kernel, by decide +kernel⟩
def S_law_is_unfit : AS := sSeq (sTry cs_Unfit (sDrop (aCall A_is_in (aCons (aTup (aCons (aVar 1) (aCons (aVar 0) aNil))) (aCons (aVar 2) aNil)))) (sRet (aVal (.bool true)))) (sRet (aVal (.bool false)))
abbrev A_law_is_unfit : AFun := aFun 3 3 S_law_is_unfit
theorem fa_law_is_unfit {f : Addr} {fd : FuncData} (F : Fun K "_law_is_unfit" "_law_is_unfit" s_law_is_unfit f fd) (B : Bl mg) {c_Unfit : Addr} (g_Unfit : mg "Unfit" = some (.ref c_Unfit)) (M_Unfit : ExMs K mg (.ref c_Unfit) cs_Unfit)
    (C_is_in : CalA UrnAt P w K mg base "is_in" 4 ["lot", "row"] A_is_in) : FA UrnAt P w K mg base 5 f fd ["rows", "wide", "line"] A_law_is_unfit := by
  obtain ⟨f_is_in, fd_is_in, F_is_in, m_is_in, k_is_in, b_is_in⟩ := C_is_in.ex
  exact fa_of (k := 4) F sc_law_is_unfit (by decide) (fun cdv A outer sh H E b => pssa_cons (psa_try rfl rfl ⟨by rfl, by decide, .inl g_Unfit⟩ b.tk M_Unfit (fun W' pn xe tk' hp' => have b' := b.tr tk' hp'; pssa_one (psa_expr (pea_call F_is_in b' (by decide) rfl m_is_in k_is_in b_is_in (paa_cons (pea_tup (paa_cons (apv 1) (paa_cons (apv 0) paa_nil))) (paa_cons (apv 2) paa_nil))))) (fun a pn => pssa_one (psa_ret pea_bl))) (pssa_one (psa_ret pea_bl)))
/-! ### law -/
abbrev N_law : List Str := ["script", "urn", "turn", "world", "wide", "many", "rows", "k", "tests", "made", "line", "at", "less", "other"]
theorem sc_law : FnScope N_law ["script"] (defScope s_law) := ⟨rfl, rfl, rfl, by decide +kernel, rfl, by decide +kernel, by decide +kernel⟩
def S_law_1 : AS := sIf (aNotT (aTst (aCall A_law_is_right (aCons (aVar 1) (aCons (aVar 6) (aCons (aVar 10) (aCons (aVar 3) aNil))))))) (sRet (aVal (.bool false))) sNext
def S_law_2 : AS := sSeq (sSet 12 (aBin fAdd (aSl (aVar 6) aNoPart (aPart (aVar 11))) (aSl (aVar 6) (aPart (aBin fAdd (aVar 11) (aVal (.int 1)))) aNoPart))) (sIf (aTstB (aBin (fEq true) (aCB fRepr (aCons (aCall A_is_in (aCons (aTup (aCons (aVar 4) (aCons (aVar 12) aNil))) (aCons (aBin fIx (aVar 6) (aVar 11)) aNil))) aNil)) (aCB fRepr (aCons (aCall A_law_is_made (aCons (aVar 12) (aCons (aBin fIx (aVar 6) (aVar 11)) aNil))) aNil)))) (sRet (aVal (.bool false))) sNext)
def S_law_3 : AS := sSeq (sSet 3 (aOf (aLst (aCons (aCall A_law_one (aCons (aVar 1) (aCons (aOf (aLst (aCons (aVal (.int 0)) (aCons (aVal (.int 1)) (aCons (aVal (.int 2)) (aCons (aVal (.int 5)) (aCons (aVal (.int 60)) aNil))))))) aNil))) (aCons (aCall A_law_one (aCons (aVar 1) (aCons (aOf (aLst (aCons (aVal (.int 0)) (aCons (aVal (.int 0)) (aCons (aVal (.int 1)) (aCons (aBin fPow (aVal (.int 10)) (aVal (.int 9))) (aCons (aBin fPow (aVal (.int 10)) (aVal (.int 30))) (aCons (aBin fPow (aBin fPow (aVal (.int 10)) (aVal (.int 60))) (aVal (.int 14))) aNil)))))))) aNil))) aNil))))) (sSeq (sAsg (aTup (aCons (aBin fAdd (aVal (.int 1)) (aCall A_law_take (aCons (aVar 1) (aCons (aVal (.int 4)) aNil)))) (aCons (aCall A_law_one (aCons (aVar 1) (aCons (aOf (aLst (aCons (aVal (.int 0)) (aCons (aVal (.int 1)) (aCons (aVal (.int 2)) (aCons (aVal (.int 3)) (aCons (aVal (.int 4)) (aCons (aVal (.int 7)) (aCons (aVal (.int 9)) aNil))))))))) aNil))) aNil))) (agTup 2 (agCons (agName 4) (agCons (agName 5) agNil)))) (sSeq (sSet 6 (aCB fTuple (aCons (aOf (aLc [7] (aRng1 (aCons (aVar 5) aNil)) (agName 7) aYes (aCall A_law_row_of (aCons (aVar 1) (aCons (aVar 4) (aCons (aVar 3) aNil)))))) aNil))) (sSeq (sIf (aAndT (aTstB (aBin (fEq true) (aVar 6) (aTup aNil))) (aTstB (aBin (fEq false) (aCall A_law_take (aCons (aVar 1) (aCons (aVal (.int 2)) aNil))) (aVal (.int 0))))) (sSet 6 (aBin fAdd (aVar 6) (aTup (aCons (aCall A_law_plus (aCons (aBin fIx (aVar 6) (aCall A_law_take (aCons (aVar 1) (aCons (aVar 5) aNil)))) (aCons (aCall A_law_take (aCons (aVar 1) (aCons (aVal (.int 3)) aNil))) aNil))) aNil)))) sNext) (sSeq (sSet 8 (aOf (aLst (aCons (aCall A_law_row_of (aCons (aVar 1) (aCons (aVar 4) (aCons (aVar 3) aNil)))) (aCons (aCall A_law_row_of (aCons (aVar 1) (aCons (aVar 4) (aCons (aVar 3) aNil)))) aNil))))) (sSeq (sIf (aTstB (aBin (fEq true) (aVar 6) (aTup aNil))) (sSeq (sSet 9 (aCall A_law_made (aCons (aVar 1) (aCons (aVar 6) (aCons (aVar 3) aNil))))) (sSeq (sSet 8 (aBin fAdd (aVar 8) (aOf (aLst (aCons (aVar 9) (aCons (aCall A_law_near (aCons (aVar 1) (aCons (aVar 9) (aCons (aVar 3) aNil)))) (aCons (aCall A_law_near (aCons (aVar 1) (aCons (aVar 9) (aCons (aVar 3) aNil)))) aNil))))))) (sIf (aNotT (aTst (aCall A_law_is_made (aCons (aVar 6) (aCons (aVar 9) aNil))))) (sRet (aVal (.bool false))) sNext))) sNext) (sSeq (sFor (aSeq (aVar 8)) (agName 10) S_law_1) (sSeq (sFor (aRng1 (aCons (aCB fMin (aCons (aCB fLen (aCons (aVar 6) aNil)) (aCons (aVal (.int 6)) aNil))) aNil)) (agName 11) S_law_2) (sSeq (sSet 13 (aCall A_law_row_of (aCons (aVar 1) (aCons (aBin fAdd (aVal (.int 1)) (aBin fMod (aCB fInt (aCons (aBin fAdd (aVar 4) (aCall A_law_take (aCons (aVar 1) (aCons (aVal (.int 3)) aNil)))) aNil)) (aVal (.int 4)))) (aCons (aVar 3) aNil))))) (sIf (aOrT (aNotT (aTst (aCall A_law_of_two (aCons (aVar 1) (aCons (aVar 3) aNil))))) (aNotT (aTst (aCall A_law_is_unfit (aCons (aVar 6) (aCons (aVar 4) (aCons (aVar 13) aNil))))))) (sRet (aVal (.bool false))) sNext)))))))))
def S_law : AS := sSeq (sFor (aRng1 (aCons (aVal (.int 4)) aNil)) (agName 2) S_law_3) (sRet (aCall A_law_of_many (aCons (aVar 1) aNil)))
theorem fg_law {f : Addr} {fd : FuncData} (F : Fun K "law" "law" s_law f fd) (B : Bl mg) (St : StatAt base) (U : Cal P w K mg base "_law_urn" 1 ["script"] (spUrn K))
    (C_law_of_many : CalA UrnAt P w K mg base "_law_of_many" 5 ["urn"] A_law_of_many)
    (C_law_row_of : CalA UrnAt P w K mg base "_law_row_of" 3 ["urn", "wide", "world"] A_law_row_of)
    (C_law_one : CalA UrnAt P w K mg base "_law_one" 2 ["urn", "items"] A_law_one)
    (C_law_made : CalA UrnAt P w K mg base "_law_made" 3 ["urn", "rows", "world"] A_law_made)
    (C_law_take : CalA UrnAt P w K mg base "_law_take" 1 ["urn", "size"] A_law_take)
    (C_law_is_made : CalA UrnAt P w K mg base "_law_is_made" 2 ["rows", "line"] A_law_is_made)
    (C_law_is_right : CalA UrnAt P w K mg base "_law_is_right" 5 ["urn", "rows", "line", "world"] A_law_is_right)
    (C_law_of_two : CalA UrnAt P w K mg base "_law_of_two" 5 ["urn", "world"] A_law_of_two)
    (C_law_is_unfit : CalA UrnAt P w K mg base "_law_is_unfit" 5 ["rows", "wide", "line"] A_law_is_unfit)
    (C_law_plus : CalA UrnAt P w K mg base "_law_plus" 1 ["line", "much"] A_law_plus)
    (C_law_near : CalA UrnAt P w K mg base "_law_near" 3 ["urn", "line", "world"] A_law_near)
    (C_is_in : CalA UrnAt P w K mg base "is_in" 4 ["lot", "row"] A_is_in)
    (h : lawA N_law.length S_law) : FnG P w K mg base 6 f fd ["script"] (spLaw K) := by
  obtain ⟨f_urn, fd_urn, F_urn, m_urn, k_urn, b_urn⟩ := U.ex
  obtain ⟨f_law_of_many, fd_law_of_many, F_law_of_many, m_law_of_many, k_law_of_many, b_law_of_many⟩ := C_law_of_many.ex
  obtain ⟨f_law_row_of, fd_law_row_of, F_law_row_of, m_law_row_of, k_law_row_of, b_law_row_of⟩ := C_law_row_of.ex
  obtain ⟨f_law_one, fd_law_one, F_law_one, m_law_one, k_law_one, b_law_one⟩ := C_law_one.ex
  obtain ⟨f_law_made, fd_law_made, F_law_made, m_law_made, k_law_made, b_law_made⟩ := C_law_made.ex
  obtain ⟨f_law_take, fd_law_take, F_law_take, m_law_take, k_law_take, b_law_take⟩ := C_law_take.ex
  obtain ⟨f_law_is_made, fd_law_is_made, F_law_is_made, m_law_is_made, k_law_is_made, b_law_is_made⟩ := C_law_is_made.ex
  obtain ⟨f_law_is_right, fd_law_is_right, F_law_is_right, m_law_is_right, k_law_is_right, b_law_is_right⟩ := C_law_is_right.ex
  obtain ⟨f_law_of_two, fd_law_of_two, F_law_of_two, m_law_of_two, k_law_of_two, b_law_of_two⟩ := C_law_of_two.ex
  obtain ⟨f_law_is_unfit, fd_law_is_unfit, F_law_is_unfit, m_law_is_unfit, k_law_is_unfit, b_law_is_unfit⟩ := C_law_is_unfit.ex
  obtain ⟨f_law_plus, fd_law_plus, F_law_plus, m_law_plus, k_law_plus, b_law_plus⟩ := C_law_plus.ex
  obtain ⟨f_law_near, fd_law_near, F_law_near, m_law_near, k_law_near, b_law_near⟩ := C_law_near.ex
  obtain ⟨f_is_in, fd_is_in, F_is_in, m_is_in, k_is_in, b_is_in⟩ := C_is_in.ex
  refine fnG_of_X (fnX_of (k := 5) F sc_law (fun vs H Q E h => ?_) (fun cdv A outer sh H vs Q E hG hr h2 => ?_))
  · obtain ⟨a, ns, rfl, _⟩ := h
    rfl
  · obtain ⟨a, ns, rfl, hS, kQ⟩ := h2
    have b : Bd (cxOf (L2.CX P w) P w K mg base N_law "law" (defScope s_law) f cdv A outer sh H E) (fun cls d _ H => E cls d H) 5 := ⟨hG, hr, takes_of rfl rfl rfl rfl, passes_of rfl⟩
    have T : PSsA UrnAt (cxOf (L2.CX P w) P w K mg base N_law "law" (defScope s_law) f cdv A outer sh H E) (fun cls d _ H => E cls d H) (defBody s_law).tail S_law := pssa_cons (psa_for b.hp rfl (pia_range1 rfl B.range (paa_cons pea_int paa_nil)) (pga_name (i := 2) sc_law.nd rfl (Or.inl rfl)) (pssa_cons (psa_set (i := 3) sc_law.nd rfl (Or.inr rfl) (pea_of (pel_lst (paa_cons (pea_call F_law_one b (by decide) rfl m_law_one k_law_one b_law_one (paa_cons (apv 1) (paa_cons (pea_of (pel_lst (paa_cons pea_int (paa_cons pea_int (paa_cons pea_int (paa_cons pea_int (paa_cons pea_int paa_nil))))))) paa_nil))) (paa_cons (pea_call F_law_one b (by decide) rfl m_law_one k_law_one b_law_one (paa_cons (apv 1) (paa_cons (pea_of (pel_lst (paa_cons pea_int (paa_cons pea_int (paa_cons pea_int (paa_cons (pea_op op_powW o_pow pea_int pea_int) (paa_cons (pea_op op_powW o_pow pea_int pea_int) (paa_cons (pea_op op_powW o_pow (pea_op op_powW o_pow pea_int pea_int) pea_int) paa_nil)))))))) paa_nil))) paa_nil))))) (pssa_cons (psa_asg (pea_tup (paa_cons (pea_op op_addA o_add pea_int (pea_call F_law_take b (by decide) rfl m_law_take k_law_take b_law_take (paa_cons (apv 1) (paa_cons pea_int paa_nil)))) (paa_cons (pea_call F_law_one b (by decide) rfl m_law_one k_law_one b_law_one (paa_cons (apv 1) (paa_cons (pea_of (pel_lst (paa_cons pea_int (paa_cons pea_int (paa_cons pea_int (paa_cons pea_int (paa_cons pea_int (paa_cons pea_int (paa_cons pea_int paa_nil))))))))) paa_nil))) paa_nil))) (pga_tup rfl (pgsa_cons (pga_name (i := 4) sc_law.nd rfl (Or.inr rfl)) (pgsa_cons (pga_name (i := 5) sc_law.nd rfl (Or.inl rfl)) pgsa_nil)))) (pssa_cons (psa_set (i := 6) sc_law.nd rfl (Or.inl rfl) (pea_callTy call_tuple_of o_tuple (by rfl) B.tuple (by decide +kernel) (paa_cons (pea_of (pel_lc (own := [("k", 7)]) rfl sc_law.nd (pia_range1 rfl B.range (paa_cons (apv 5) paa_nil)) (blkOk_by (N := N_law) (sc := defScope s_law) (by decide +kernel)) (fun _ _ _ _ _ => pga_name (i := 7) sc_law.nd rfl (Or.inl rfl)) (fun _ _ _ _ _ => ptsa_nil) (fun _ _ _ _ _ => pea_call F_law_row_of b.blk (by decide) rfl m_law_row_of k_law_row_of b_law_row_of (paa_cons (apv 1) (paa_cons (apv 4) (paa_cons (apv 3) paa_nil)))))) paa_nil))) (pssa_cons (psa_if (pta_w (pwa_and (pta_cmp (op_neA b.hu) o_ne (apv 6) (pea_tup paa_nil) (nomark _)) (pwa_and1 (pta_cmp (op_eqA b.hu) o_eq (pea_call F_law_take b (by decide) rfl m_law_take k_law_take b_law_take (paa_cons (apv 1) (paa_cons pea_int paa_nil))) pea_int (nomark _))))) (pssa_one (psa_set (i := 6) sc_law.nd rfl (Or.inl rfl) (pea_op op_addA o_add (apv 6) (pea_tup (paa_cons (pea_call F_law_plus b (by decide) rfl m_law_plus k_law_plus b_law_plus (paa_cons (pea_ix (apv 6) (pea_call F_law_take b (by decide) rfl m_law_take k_law_take b_law_take (paa_cons (apv 1) (paa_cons (apv 5) paa_nil))) (fun _ _ => rfl)) (paa_cons (pea_call F_law_take b (by decide) rfl m_law_take k_law_take b_law_take (paa_cons (apv 1) (paa_cons pea_int paa_nil))) paa_nil))) paa_nil))))) pssa_nil) (pssa_cons (psa_set (i := 8) sc_law.nd rfl (Or.inl rfl) (pea_of (pel_lst (paa_cons (pea_call F_law_row_of b (by decide) rfl m_law_row_of k_law_row_of b_law_row_of (paa_cons (apv 1) (paa_cons (apv 4) (paa_cons (apv 3) paa_nil)))) (paa_cons (pea_call F_law_row_of b (by decide) rfl m_law_row_of k_law_row_of b_law_row_of (paa_cons (apv 1) (paa_cons (apv 4) (paa_cons (apv 3) paa_nil)))) paa_nil))))) (pssa_cons (psa_if (pta_cmp (op_neA b.hu) o_ne (apv 6) (pea_tup paa_nil) (nomark _)) (pssa_cons (psa_set (i := 9) sc_law.nd rfl (Or.inl rfl) (pea_call F_law_made b (by decide) rfl m_law_made k_law_made b_law_made (paa_cons (apv 1) (paa_cons (apv 6) (paa_cons (apv 3) paa_nil))))) (pssa_cons (psa_set (i := 8) sc_law.nd rfl (Or.inl rfl) (pea_op op_addA o_add (apv 8) (pea_of (pel_lst (paa_cons (apv 9) (paa_cons (pea_call F_law_near b (by decide) rfl m_law_near k_law_near b_law_near (paa_cons (apv 1) (paa_cons (apv 9) (paa_cons (apv 3) paa_nil)))) (paa_cons (pea_call F_law_near b (by decide) rfl m_law_near k_law_near b_law_near (paa_cons (apv 1) (paa_cons (apv 9) (paa_cons (apv 3) paa_nil)))) paa_nil))))))) (pssa_one (psa_if (pta_not (pta_val (pea_call F_law_is_made b (by decide) rfl m_law_is_made k_law_is_made b_law_is_made (paa_cons (apv 6) (paa_cons (apv 9) paa_nil))))) (pssa_one (psa_ret pea_bl)) pssa_nil)))) pssa_nil) (pssa_cons (psa_for b.hp rfl (pia_seq (apv 8)) (pga_name (i := 10) sc_law.nd rfl (Or.inl rfl)) (pssa_one (psa_if (pta_not (pta_val (pea_call F_law_is_right b (by decide) rfl m_law_is_right k_law_is_right b_law_is_right (paa_cons (apv 1) (paa_cons (apv 6) (paa_cons (apv 10) (paa_cons (apv 3) paa_nil))))))) (pssa_one (psa_ret pea_bl)) pssa_nil))) (pssa_cons (psa_for b.hp rfl (pia_range1 rfl B.range (paa_cons (pea_callB (cl_min rfl) o_min (by rfl) B.min (by decide +kernel) (paa_cons (pea_callB cl_len o_len (by rfl) B.len PySem.boot_len (paa_cons (apv 6) paa_nil)) (paa_cons pea_int paa_nil))) paa_nil)) (pga_name (i := 11) sc_law.nd rfl (Or.inl rfl)) (pssa_cons (psa_set (i := 12) sc_law.nd rfl (Or.inl rfl) (pea_op op_addA o_add (pea_sl (apv 6) poa_none (poa_some (apv 11))) (pea_sl (apv 6) (poa_some (pea_op op_addA o_add (apv 11) pea_int)) poa_none))) (pssa_one (psa_if (pta_cmp (op_neA b.hu) o_ne (pea_callB (cl_repr b.hG b.hu St) o_repr (by rfl) B.repr (by decide +kernel) (paa_cons (pea_call F_is_in b (by decide) rfl m_is_in k_is_in b_is_in (paa_cons (pea_tup (paa_cons (apv 4) (paa_cons (apv 12) paa_nil))) (paa_cons (pea_ix (apv 6) (apv 11) (fun _ _ => rfl)) paa_nil))) paa_nil)) (pea_callB (cl_repr b.hG b.hu St) o_repr (by rfl) B.repr (by decide +kernel) (paa_cons (pea_call F_law_is_made b (by decide) rfl m_law_is_made k_law_is_made b_law_is_made (paa_cons (apv 12) (paa_cons (pea_ix (apv 6) (apv 11) (fun _ _ => rfl)) paa_nil))) paa_nil)) (nomark _)) (pssa_one (psa_ret pea_bl)) pssa_nil)))) (pssa_cons (psa_set (i := 13) sc_law.nd rfl (Or.inl rfl) (pea_call F_law_row_of b (by decide) rfl m_law_row_of k_law_row_of b_law_row_of (paa_cons (apv 1) (paa_cons (pea_op op_addA o_add pea_int (pea_op op_modN o_mod (pea_callTy call_int1 o_int (by rfl) B.int_ (by decide +kernel) (paa_cons (pea_op op_addA o_add (apv 4) (pea_call F_law_take b (by decide) rfl m_law_take k_law_take b_law_take (paa_cons (apv 1) (paa_cons pea_int paa_nil)))) paa_nil)) pea_int)) (paa_cons (apv 3) paa_nil))))) (pssa_one (psa_if (pta_w (pwa_or (pta_not (pta_val (pea_call F_law_of_two b (by decide) rfl m_law_of_two k_law_of_two b_law_of_two (paa_cons (apv 1) (paa_cons (apv 3) paa_nil))))) (pwa_or1 (pta_not (pta_val (pea_call F_law_is_unfit b (by decide) rfl m_law_is_unfit k_law_is_unfit b_law_is_unfit (paa_cons (apv 6) (paa_cons (apv 4) (paa_cons (apv 13) paa_nil))))))))) (pssa_one (psa_ret pea_bl)) pssa_nil)))))))))))) (pssa_one (psa_ret (pea_call F_law_of_many b (by decide) rfl m_law_of_many k_law_of_many b_law_of_many (paa_cons (apv 1) paa_nil))))
    refine ⟨_, pss_cons (ps_set (i := 1) sc_law.nd rfl (by first | exact .inl rfl | exact .inr rfl) (pe_call F_urn (hr.mono (by decide)) rfl m_urn k_urn b_urn .nil pass0 (pa_cons (pv 0) pa_nil))) T.run, ?_⟩
    refine ⟨_, rfl, a, ns, rfl, hS, fun H0 u d m S0 U0 => ?_⟩
    exact law_go T h (by decide) U0 rfl rfl kQ
end
end K8

namespace K8
open PySem L2 RW RZ PySem.RW U AL
/-! ### what the program's defs tell -/
def placesFrom (k : Nat) (xs : Row) : List Nat := (xs.zipIdx k).filterMap fun p => if p.1.isSome then some p.2 else none
abbrev places (xs : Row) : List Nat := placesFrom 0 xs
theorem up_ask {a b : Int} (Q : PyData → Prop) (E : AXK) : A_ask_as_many [.v (.int a), .v (.int b)] Q E ↔ (if a = b then Q .none else E ⟨"Unfit", none⟩) := by
  simp only [A_ask_as_many, S_ask_as_many, aFun, startA, toAV, sNext, sSeq, sRet, sIf, sSet, sAsg, sOwn, sLst, sDrop, sFor, sFrz, sApp, sSetIx, sRaise0, sBrk, sCont, sTry, tryX, noEx, sPar2, sPar3, aVal, aVar, aBin, aTst, aTstB, onTru, onV, truthD, aUn, aNil, aCons, aStar, itemsA, datas, aTup, aLst, aOf, aAndT, aOrT, aNotT, aAndV, aOrV, aNotV, aIf, aChain, aCB, onSeq, fLen, fTuple, fList, fInt, fAbs, fAdd, fI, fI0, fSub, fLt, fLe, fGt, fGe, fIs, fNeg, aSl, aRev, aNoPart, aPart, aLc, aYes, aFz, aFzT, frzA, frzV, aSeq, aRng1, aRng2, aZip, aEnumT, aEnumL, agName, agNil, agCons, agTup, wipeA, aCall, aCallK, flatD, List.map_cons, List.map_nil, List.length_cons, List.length_nil, List.replicate, List.getElem?_cons_zero, List.getElem?_cons_succ, List.set_cons_zero, List.set_cons_succ, List.cons_append, List.nil_append, Option.map_some, Option.map_none, Nat.sub_self, Nat.reduceSub, Nat.reduceAdd, Nat.reduceLeDiff, Nat.reduceMul, Nat.zero_add, true_and, and_true, forall_const, Bool.false_eq_true, false_implies, implies_true, reduceCtorEq, forall_eq', Bool.true_eq_false, if_true, if_false, reduceIte, ite_true, ite_false, Bool.not_true, Bool.not_false, true_implies, List.length_map]
  rw [fNe_int]
  by_cases h : a = b <;> simp [h]
theorem filterMap_map' {α β γ : Type} (f : β → γ) (g : α → Option β) (l : List α) : (l.filterMap g).map f = l.filterMap fun x => (g x).map f := by
  induction l with
  | nil => rfl
  | cons x l ih => cases h : g x <;> simp [h, ih]
theorem sp_places (xs : Row) (hl : xs.length ≤ 1000) (Q : PyData → Prop) (E : AXK) : A_integer_places [.v (rowD xs)] Q E ↔ Q (natsL (places xs)) := by
  simp only [A_integer_places, S_integer_places, aFun, startA, toAV, sNext, sSeq, sRet, sIf, sSet, sAsg, sOwn, sLst, sDrop, sFor, sFrz, sApp, sSetIx, sRaise0, sBrk, sCont, sTry, tryX, noEx, sPar2, sPar3, aVal, aVar, aBin, aTst, aTstB, onTru, onV, truthD, aUn, aNil, aCons, aStar, itemsA, datas, aTup, aLst, aOf, aAndT, aOrT, aNotT, aAndV, aOrV, aNotV, aIf, aChain, aCB, onSeq, fLen, fTuple, fList, fInt, fAbs, fAdd, fI, fI0, fSub, fLt, fLe, fGt, fGe, fIs, fNeg, aSl, aRev, aNoPart, aPart, aLc, aYes, aFz, aFzT, frzA, frzV, aSeq, aRng1, aRng2, aZip, aEnumT, aEnumL, agName, agNil, agCons, agTup, wipeA, aCall, aCallK, flatD, List.map_cons, List.map_nil, List.length_cons, List.length_nil, List.replicate, List.getElem?_cons_zero, List.getElem?_cons_succ, List.set_cons_zero, List.set_cons_succ, List.cons_append, List.nil_append, Option.map_some, Option.map_none, Nat.sub_self, Nat.reduceSub, Nat.reduceAdd, Nat.reduceLeDiff, Nat.reduceMul, Nat.zero_add, true_and, and_true, forall_const, Bool.false_eq_true, false_implies, implies_true, reduceCtorEq, forall_eq', Bool.true_eq_false, if_true, if_false, reduceIte, ite_true, ite_false, Bool.not_true, Bool.not_false, true_implies, List.length_map, enumD_map]
  rw [lcGo_iff (fun p : Option Int × Nat => if p.1.isSome then some (.int (p.2 : Nat)) else none)]
  · have : xs.zipIdx.length ≤ 2000000 := by rw [List.length_zipIdx]; omega
    simp only [this, true_and, List.nil_append, places, placesFrom, natsL, filterMap_map']
    have e : (fun p : Option Int × Nat => if p.1.isSome then some (PyData.int (p.2 : Nat)) else none) = fun x => Option.map (fun n : Nat => PyData.int (n : Int)) (if x.1.isSome then some x.2 else none) := by
      funext p; cases p.1 <;> rfl
    rw [e]
  · intro p hp R
    obtain ⟨o, k⟩ := p
    cases o <;> simp [aFun, startA, toAV, sNext, sSeq, sRet, sIf, sSet, sAsg, sOwn, sLst, sDrop, sFor, sFrz, sApp, sSetIx, sRaise0, sBrk, sCont, sTry, tryX, noEx, sPar2, sPar3, aVal, aVar, aBin, aTst, aTstB, onTru, onV, truthD, aUn, aNil, aCons, aStar, itemsA, datas, aTup, aLst, aOf, aAndT, aOrT, aNotT, aAndV, aOrV, aNotV, aIf, aChain, aCB, onSeq, fLen, fTuple, fList, fInt, fAbs, fAdd, fI, fI0, fSub, fLt, fLe, fGt, fGe, fIs, fNeg, aSl, aRev, aNoPart, aPart, aLc, aYes, aFz, aFzT, frzA, frzV, aSeq, aRng1, aRng2, aZip, aEnumT, aEnumL, agName, agNil, agCons, agTup, wipeA, aCall, aCallK, flatD, List.map_cons, List.map_nil, List.length_cons, List.length_nil, List.replicate, List.getElem?_cons_zero, List.getElem?_cons_succ, List.set_cons_zero, List.set_cons_succ, List.cons_append, List.nil_append, Option.map_some, Option.map_none, Nat.sub_self, Nat.reduceSub, Nat.reduceAdd, Nat.reduceLeDiff, Nat.reduceMul, Nat.zero_add, true_and, and_true, forall_const, Bool.false_eq_true, false_implies, implies_true, reduceCtorEq, forall_eq', Bool.true_eq_false, if_true, if_false, reduceIte, ite_true, ite_false, Bool.not_true, Bool.not_false, true_implies, List.length_map, isNone_pd]
def gsh : List (Option Int × Option Int) → Option Int → Option Int
  | [], s => s
  | (none, _) :: r, s => gsh r s
  | (some _, none) :: _, _ => none
  | (some a, some b) :: r, none => gsh r (some (b - a))
  | (some a, some b) :: r, some s => gsh r (some (if b - a < s then b - a else s))
theorem gsh_loop {x y : Option AV} {D : AEnds} {N : Option Int → Prop} (hn : ∀ s o3 o4, D.nx [x, y, some (.dat (pd s)), o3, o4] ↔ N s) (hr : D.rt .none ↔ N none) : ∀ (l : List (Option Int × Option Int)) (s : Option Int) (o3 o4 : Option AV),
    forGo (agTup 2 (agCons (agName 3) (agCons (agName 4) agNil))) S_greatest_shift_1 D (l.map fun p => .tuple [pd p.1, pd p.2]) [x, y, some (.dat (pd s)), o3, o4] ↔ N (gsh l s)
  | [], s, o3, o4 => by simp only [forGo, List.map_nil, gsh, hn]
  | (a, b) :: r, s, o3, o4 => by
    have ih := gsh_loop hn hr r
    rw [List.map_cons]
    unfold forGo
    generalize forGo (agTup 2 (agCons (agName 3) (agCons (agName 4) agNil))) S_greatest_shift_1 D (r.map fun p => .tuple [pd p.1, pd p.2]) = F at ih ⊢
    cases a with
    | none => simpa only [S_greatest_shift_1, aFun, startA, toAV, sNext, sSeq, sRet, sIf, sSet, sAsg, sOwn, sLst, sDrop, sFor, sFrz, sApp, sSetIx, sRaise0, sBrk, sCont, sTry, tryX, noEx, sPar2, sPar3, aVal, aVar, aBin, aTst, aTstB, onTru, onV, truthD, aUn, aNil, aCons, aStar, itemsA, datas, aTup, aLst, aOf, aAndT, aOrT, aNotT, aAndV, aOrV, aNotV, aIf, aChain, aCB, onSeq, fLen, fTuple, fList, fInt, fAbs, fAdd, fI, fI0, fSub, fLt, fLe, fGt, fGe, fIs, fNeg, aSl, aRev, aNoPart, aPart, aLc, aYes, aFz, aFzT, frzA, frzV, aSeq, aRng1, aRng2, aZip, aEnumT, aEnumL, agName, agNil, agCons, agTup, wipeA, aCall, aCallK, flatD, List.map_cons, List.map_nil, List.length_cons, List.length_nil, List.replicate, List.getElem?_cons_zero, List.getElem?_cons_succ, List.set_cons_zero, List.set_cons_succ, List.cons_append, List.nil_append, Option.map_some, Option.map_none, Nat.sub_self, Nat.reduceSub, Nat.reduceAdd, Nat.reduceLeDiff, Nat.reduceMul, Nat.zero_add, true_and, and_true, forall_const, Bool.false_eq_true, false_implies, implies_true, reduceCtorEq, forall_eq', Bool.true_eq_false, if_true, if_false, reduceIte, ite_true, ite_false, Bool.not_true, Bool.not_false, true_implies, List.length_map, pdn, isNone, gsh] using ih _ _ _
    | some a =>
      cases b with
      | none => simpa only [S_greatest_shift_1, aFun, startA, toAV, sNext, sSeq, sRet, sIf, sSet, sAsg, sOwn, sLst, sDrop, sFor, sFrz, sApp, sSetIx, sRaise0, sBrk, sCont, sTry, tryX, noEx, sPar2, sPar3, aVal, aVar, aBin, aTst, aTstB, onTru, onV, truthD, aUn, aNil, aCons, aStar, itemsA, datas, aTup, aLst, aOf, aAndT, aOrT, aNotT, aAndV, aOrV, aNotV, aIf, aChain, aCB, onSeq, fLen, fTuple, fList, fInt, fAbs, fAdd, fI, fI0, fSub, fLt, fLe, fGt, fGe, fIs, fNeg, aSl, aRev, aNoPart, aPart, aLc, aYes, aFz, aFzT, frzA, frzV, aSeq, aRng1, aRng2, aZip, aEnumT, aEnumL, agName, agNil, agCons, agTup, wipeA, aCall, aCallK, flatD, List.map_cons, List.map_nil, List.length_cons, List.length_nil, List.replicate, List.getElem?_cons_zero, List.getElem?_cons_succ, List.set_cons_zero, List.set_cons_succ, List.cons_append, List.nil_append, Option.map_some, Option.map_none, Nat.sub_self, Nat.reduceSub, Nat.reduceAdd, Nat.reduceLeDiff, Nat.reduceMul, Nat.zero_add, true_and, and_true, forall_const, Bool.false_eq_true, false_implies, implies_true, reduceCtorEq, forall_eq', Bool.true_eq_false, if_true, if_false, reduceIte, ite_true, ite_false, Bool.not_true, Bool.not_false, true_implies, List.length_map, pdn, pds, isNone, gsh] using hr
      | some b =>
        cases s with
        | none => simpa only [S_greatest_shift_1, aFun, startA, toAV, sNext, sSeq, sRet, sIf, sSet, sAsg, sOwn, sLst, sDrop, sFor, sFrz, sApp, sSetIx, sRaise0, sBrk, sCont, sTry, tryX, noEx, sPar2, sPar3, aVal, aVar, aBin, aTst, aTstB, onTru, onV, truthD, aUn, aNil, aCons, aStar, itemsA, datas, aTup, aLst, aOf, aAndT, aOrT, aNotT, aAndV, aOrV, aNotV, aIf, aChain, aCB, onSeq, fLen, fTuple, fList, fInt, fAbs, fAdd, fI, fI0, fSub, fLt, fLe, fGt, fGe, fIs, fNeg, aSl, aRev, aNoPart, aPart, aLc, aYes, aFz, aFzT, frzA, frzV, aSeq, aRng1, aRng2, aZip, aEnumT, aEnumL, agName, agNil, agCons, agTup, wipeA, aCall, aCallK, flatD, List.map_cons, List.map_nil, List.length_cons, List.length_nil, List.replicate, List.getElem?_cons_zero, List.getElem?_cons_succ, List.set_cons_zero, List.set_cons_succ, List.cons_append, List.nil_append, Option.map_some, Option.map_none, Nat.sub_self, Nat.reduceSub, Nat.reduceAdd, Nat.reduceLeDiff, Nat.reduceMul, Nat.zero_add, true_and, and_true, forall_const, Bool.false_eq_true, false_implies, implies_true, reduceCtorEq, forall_eq', Bool.true_eq_false, if_true, if_false, reduceIte, ite_true, ite_false, Bool.not_true, Bool.not_false, true_implies, List.length_map, pdn, pds, isNone, gsh] using ih (some (b - a)) _ _
        | some s =>
          by_cases h : b - a < s
          · simpa only [S_greatest_shift_1, aFun, startA, toAV, sNext, sSeq, sRet, sIf, sSet, sAsg, sOwn, sLst, sDrop, sFor, sFrz, sApp, sSetIx, sRaise0, sBrk, sCont, sTry, tryX, noEx, sPar2, sPar3, aVal, aVar, aBin, aTst, aTstB, onTru, onV, truthD, aUn, aNil, aCons, aStar, itemsA, datas, aTup, aLst, aOf, aAndT, aOrT, aNotT, aAndV, aOrV, aNotV, aIf, aChain, aCB, onSeq, fLen, fTuple, fList, fInt, fAbs, fAdd, fI, fI0, fSub, fLt, fLe, fGt, fGe, fIs, fNeg, aSl, aRev, aNoPart, aPart, aLc, aYes, aFz, aFzT, frzA, frzV, aSeq, aRng1, aRng2, aZip, aEnumT, aEnumL, agName, agNil, agCons, agTup, wipeA, aCall, aCallK, flatD, List.map_cons, List.map_nil, List.length_cons, List.length_nil, List.replicate, List.getElem?_cons_zero, List.getElem?_cons_succ, List.set_cons_zero, List.set_cons_succ, List.cons_append, List.nil_append, Option.map_some, Option.map_none, Nat.sub_self, Nat.reduceSub, Nat.reduceAdd, Nat.reduceLeDiff, Nat.reduceMul, Nat.zero_add, true_and, and_true, forall_const, Bool.false_eq_true, false_implies, implies_true, reduceCtorEq, forall_eq', Bool.true_eq_false, if_true, if_false, reduceIte, ite_true, ite_false, Bool.not_true, Bool.not_false, true_implies, List.length_map, pdn, pds, isNone, gsh, h, decide_true, decide_false] using ih (some (b - a)) _ _
          · simpa only [S_greatest_shift_1, aFun, startA, toAV, sNext, sSeq, sRet, sIf, sSet, sAsg, sOwn, sLst, sDrop, sFor, sFrz, sApp, sSetIx, sRaise0, sBrk, sCont, sTry, tryX, noEx, sPar2, sPar3, aVal, aVar, aBin, aTst, aTstB, onTru, onV, truthD, aUn, aNil, aCons, aStar, itemsA, datas, aTup, aLst, aOf, aAndT, aOrT, aNotT, aAndV, aOrV, aNotV, aIf, aChain, aCB, onSeq, fLen, fTuple, fList, fInt, fAbs, fAdd, fI, fI0, fSub, fLt, fLe, fGt, fGe, fIs, fNeg, aSl, aRev, aNoPart, aPart, aLc, aYes, aFz, aFzT, frzA, frzV, aSeq, aRng1, aRng2, aZip, aEnumT, aEnumL, agName, agNil, agCons, agTup, wipeA, aCall, aCallK, flatD, List.map_cons, List.map_nil, List.length_cons, List.length_nil, List.replicate, List.getElem?_cons_zero, List.getElem?_cons_succ, List.set_cons_zero, List.set_cons_succ, List.cons_append, List.nil_append, Option.map_some, Option.map_none, Nat.sub_self, Nat.reduceSub, Nat.reduceAdd, Nat.reduceLeDiff, Nat.reduceMul, Nat.zero_add, true_and, and_true, forall_const, Bool.false_eq_true, false_implies, implies_true, reduceCtorEq, forall_eq', Bool.true_eq_false, if_true, if_false, reduceIte, ite_true, ite_false, Bool.not_true, Bool.not_false, true_implies, List.length_map, pdn, pds, isNone, gsh, h, decide_true, decide_false] using ih (some s) _ _
theorem sp_gsh (xs ys : Row) (Q : PyData → Prop) (E : AXK) : A_greatest_shift [.v (rowD xs), .v (rowD ys)] Q E ↔ Q (pd (gsh (xs.zip ys) none)) := by
  simp only [A_greatest_shift, S_greatest_shift, aFun, startA, toAV, sNext, sSeq, sRet, sIf, sSet, sAsg, sOwn, sLst, sDrop, sFor, sFrz, sApp, sSetIx, sRaise0, sBrk, sCont, sTry, tryX, noEx, sPar2, sPar3, aVal, aVar, aBin, aTst, aTstB, onTru, onV, truthD, aUn, aNil, aCons, aStar, itemsA, datas, aTup, aLst, aOf, aAndT, aOrT, aNotT, aAndV, aOrV, aNotV, aIf, aChain, aCB, onSeq, fLen, fTuple, fList, fInt, fAbs, fAdd, fI, fI0, fSub, fLt, fLe, fGt, fGe, fIs, fNeg, aSl, aRev, aNoPart, aPart, aLc, aYes, aFz, aFzT, frzA, frzV, aSeq, aRng1, aRng2, aZip, aEnumT, aEnumL, agName, agNil, agCons, agTup, wipeA, aCall, aCallK, flatD, List.map_cons, List.map_nil, List.length_cons, List.length_nil, List.replicate, List.getElem?_cons_zero, List.getElem?_cons_succ, List.set_cons_zero, List.set_cons_succ, List.cons_append, List.nil_append, Option.map_some, Option.map_none, Nat.sub_self, Nat.reduceSub, Nat.reduceAdd, Nat.reduceLeDiff, Nat.reduceMul, Nat.zero_add, true_and, and_true, forall_const, Bool.false_eq_true, false_implies, implies_true, reduceCtorEq, forall_eq', Bool.true_eq_false, if_true, if_false, reduceIte, ite_true, ite_false, Bool.not_true, Bool.not_false, true_implies, List.length_map, zipD_map]
  exact gsh_loop (N := fun s => Q (pd s)) (fun s o3 o4 => by simp only [aFun, startA, toAV, sNext, sSeq, sRet, sIf, sSet, sAsg, sOwn, sLst, sDrop, sFor, sFrz, sApp, sSetIx, sRaise0, sBrk, sCont, sTry, tryX, noEx, sPar2, sPar3, aVal, aVar, aBin, aTst, aTstB, onTru, onV, truthD, aUn, aNil, aCons, aStar, itemsA, datas, aTup, aLst, aOf, aAndT, aOrT, aNotT, aAndV, aOrV, aNotV, aIf, aChain, aCB, onSeq, fLen, fTuple, fList, fInt, fAbs, fAdd, fI, fI0, fSub, fLt, fLe, fGt, fGe, fIs, fNeg, aSl, aRev, aNoPart, aPart, aLc, aYes, aFz, aFzT, frzA, frzV, aSeq, aRng1, aRng2, aZip, aEnumT, aEnumL, agName, agNil, agCons, agTup, wipeA, aCall, aCallK, flatD, List.map_cons, List.map_nil, List.length_cons, List.length_nil, List.replicate, List.getElem?_cons_zero, List.getElem?_cons_succ, List.set_cons_zero, List.set_cons_succ, List.cons_append, List.nil_append, Option.map_some, Option.map_none, Nat.sub_self, Nat.reduceSub, Nat.reduceAdd, Nat.reduceLeDiff, Nat.reduceMul, Nat.zero_add, true_and, and_true, forall_const, Bool.false_eq_true, false_implies, implies_true, reduceCtorEq, forall_eq', Bool.true_eq_false, if_true, if_false, reduceIte, ite_true, ite_false, Bool.not_true, Bool.not_false, true_implies, List.length_map]) Iff.rfl (xs.zip ys) none none none
theorem mem_places {xs : Row} {p : Nat} : p ∈ places xs ↔ ∃ a, xs[p]? = some (some a) := by
  unfold places placesFrom
  rw [List.mem_filterMap]
  constructor
  · rintro ⟨⟨o, k⟩, h1, h2⟩
    have := List.mem_zipIdx_iff_getElem?.mp h1
    cases o with
    | none => simp at h2
    | some a =>
      simp at h2
      subst h2
      exact ⟨a, this⟩
  · rintro ⟨a, h⟩
    exact ⟨(some a, p), List.mem_zipIdx_iff_getElem?.mpr h, rfl⟩
theorem places_len (xs : Row) : (places xs).length ≤ xs.length := by
  unfold places placesFrom
  exact Nat.le_trans (List.length_filterMap_le _ _) (by rw [List.length_zipIdx]; exact Nat.le_refl _)
/-- the places at which it comes up -/
def tou (xs ys : Row) : List Nat := match gsh (xs.zip ys) none with
  | none => []
  | some s => (places xs).filter fun p => decide ((xs[p]?.join).map (· + s) = ys[p]?.join)
theorem sp_touched (xs ys : Row) (hl : xs.length = ys.length) (h1 : xs.length ≤ 1000) (Q : PyData → Prop) (E : AXK) : A_touched [.v (rowD xs), .v (rowD ys)] Q E ↔ Q (natsL (tou xs ys)) := by
  simp only [A_touched, S_touched, aFun, startA, toAV, sNext, sSeq, sRet, sIf, sSet, sAsg, sOwn, sLst, sDrop, sFor, sFrz, sApp, sSetIx, sRaise0, sBrk, sCont, sTry, tryX, noEx, sPar2, sPar3, aVal, aVar, aBin, aTst, aTstB, onTru, onV, truthD, aUn, aNil, aCons, aStar, itemsA, datas, aTup, aLst, aOf, aAndT, aOrT, aNotT, aAndV, aOrV, aNotV, aIf, aChain, aCB, onSeq, fLen, fTuple, fList, fInt, fAbs, fAdd, fI, fI0, fSub, fLt, fLe, fGt, fGe, fIs, fNeg, aSl, aRev, aNoPart, aPart, aLc, aYes, aFz, aFzT, frzA, frzV, aSeq, aRng1, aRng2, aZip, aEnumT, aEnumL, agName, agNil, agCons, agTup, wipeA, aCall, aCallK, flatD, List.map_cons, List.map_nil, List.length_cons, List.length_nil, List.replicate, List.getElem?_cons_zero, List.getElem?_cons_succ, List.set_cons_zero, List.set_cons_succ, List.cons_append, List.nil_append, Option.map_some, Option.map_none, Nat.sub_self, Nat.reduceSub, Nat.reduceAdd, Nat.reduceLeDiff, Nat.reduceMul, Nat.zero_add, true_and, and_true, forall_const, Bool.false_eq_true, false_implies, implies_true, reduceCtorEq, forall_eq', Bool.true_eq_false, if_true, if_false, reduceIte, ite_true, ite_false, Bool.not_true, Bool.not_false, true_implies, List.length_map]
  rw [up_iff (sp_gsh xs ys)]
  unfold tou
  cases e : gsh (xs.zip ys) none with
  | none =>
    simp only [aFun, startA, toAV, sNext, sSeq, sRet, sIf, sSet, sAsg, sOwn, sLst, sDrop, sFor, sFrz, sApp, sSetIx, sRaise0, sBrk, sCont, sTry, tryX, noEx, sPar2, sPar3, aVal, aVar, aBin, aTst, aTstB, onTru, onV, truthD, aUn, aNil, aCons, aStar, itemsA, datas, aTup, aLst, aOf, aAndT, aOrT, aNotT, aAndV, aOrV, aNotV, aIf, aChain, aCB, onSeq, fLen, fTuple, fList, fInt, fAbs, fAdd, fI, fI0, fSub, fLt, fLe, fGt, fGe, fIs, fNeg, aSl, aRev, aNoPart, aPart, aLc, aYes, aFz, aFzT, frzA, frzV, aSeq, aRng1, aRng2, aZip, aEnumT, aEnumL, agName, agNil, agCons, agTup, wipeA, aCall, aCallK, flatD, List.map_cons, List.map_nil, List.length_cons, List.length_nil, List.replicate, List.getElem?_cons_zero, List.getElem?_cons_succ, List.set_cons_zero, List.set_cons_succ, List.cons_append, List.nil_append, Option.map_some, Option.map_none, Nat.sub_self, Nat.reduceSub, Nat.reduceAdd, Nat.reduceLeDiff, Nat.reduceMul, Nat.zero_add, true_and, and_true, forall_const, Bool.false_eq_true, false_implies, implies_true, reduceCtorEq, forall_eq', Bool.true_eq_false, if_true, if_false, reduceIte, ite_true, ite_false, Bool.not_true, Bool.not_false, true_implies, List.length_map, pdn, isNone]
    exact Iff.rfl
  | some s =>
    simp only [aFun, startA, toAV, sNext, sSeq, sRet, sIf, sSet, sAsg, sOwn, sLst, sDrop, sFor, sFrz, sApp, sSetIx, sRaise0, sBrk, sCont, sTry, tryX, noEx, sPar2, sPar3, aVal, aVar, aBin, aTst, aTstB, onTru, onV, truthD, aUn, aNil, aCons, aStar, itemsA, datas, aTup, aLst, aOf, aAndT, aOrT, aNotT, aAndV, aOrV, aNotV, aIf, aChain, aCB, onSeq, fLen, fTuple, fList, fInt, fAbs, fAdd, fI, fI0, fSub, fLt, fLe, fGt, fGe, fIs, fNeg, aSl, aRev, aNoPart, aPart, aLc, aYes, aFz, aFzT, frzA, frzV, aSeq, aRng1, aRng2, aZip, aEnumT, aEnumL, agName, agNil, agCons, agTup, wipeA, aCall, aCallK, flatD, List.map_cons, List.map_nil, List.length_cons, List.length_nil, List.replicate, List.getElem?_cons_zero, List.getElem?_cons_succ, List.set_cons_zero, List.set_cons_succ, List.cons_append, List.nil_append, Option.map_some, Option.map_none, Nat.sub_self, Nat.reduceSub, Nat.reduceAdd, Nat.reduceLeDiff, Nat.reduceMul, Nat.zero_add, true_and, and_true, forall_const, Bool.false_eq_true, false_implies, implies_true, reduceCtorEq, forall_eq', Bool.true_eq_false, if_true, if_false, reduceIte, ite_true, ite_false, Bool.not_true, Bool.not_false, true_implies, List.length_map, pds, isNone]
    rw [up_iff (sp_places xs h1)]
    try simp only [aFun, startA, toAV, sNext, sSeq, sRet, sIf, sSet, sAsg, sOwn, sLst, sDrop, sFor, sFrz, sApp, sSetIx, sRaise0, sBrk, sCont, sTry, tryX, noEx, sPar2, sPar3, aVal, aVar, aBin, aTst, aTstB, onTru, onV, truthD, aUn, aNil, aCons, aStar, itemsA, datas, aTup, aLst, aOf, aAndT, aOrT, aNotT, aAndV, aOrV, aNotV, aIf, aChain, aCB, onSeq, fLen, fTuple, fList, fInt, fAbs, fAdd, fI, fI0, fSub, fLt, fLe, fGt, fGe, fIs, fNeg, aSl, aRev, aNoPart, aPart, aLc, aYes, aFz, aFzT, frzA, frzV, aSeq, aRng1, aRng2, aZip, aEnumT, aEnumL, agName, agNil, agCons, agTup, wipeA, aCall, aCallK, flatD, List.map_cons, List.map_nil, List.length_cons, List.length_nil, List.replicate, List.getElem?_cons_zero, List.getElem?_cons_succ, List.set_cons_zero, List.set_cons_succ, List.cons_append, List.nil_append, Option.map_some, Option.map_none, Nat.sub_self, Nat.reduceSub, Nat.reduceAdd, Nat.reduceLeDiff, Nat.reduceMul, Nat.zero_add, true_and, and_true, forall_const, Bool.false_eq_true, false_implies, implies_true, reduceCtorEq, forall_eq', Bool.true_eq_false, if_true, if_false, reduceIte, ite_true, ite_false, Bool.not_true, Bool.not_false, true_implies, List.length_map]
    rw [lcGo_keep (fun p : Nat => decide ((xs[p]?.join).map (· + s) = ys[p]?.join)) (fun p : Nat => .int (p : Nat))]
    · have hz : (places xs).length ≤ 2000000 := by have := places_len xs; omega
      simp only [hz, true_and, List.nil_append]
    · intro p hp R
      obtain ⟨a, ha⟩ := mem_places.mp hp
      have hp2 : p < ys.length := by rw [← hl]; exact (List.getElem?_eq_some_iff.mp ha).1
      obtain ⟨o, ho⟩ : ∃ o, ys[p]? = some o := ⟨ys[p], List.getElem?_eq_getElem hp2⟩
      simp only [aFun, startA, toAV, sNext, sSeq, sRet, sIf, sSet, sAsg, sOwn, sLst, sDrop, sFor, sFrz, sApp, sSetIx, sRaise0, sBrk, sCont, sTry, tryX, noEx, sPar2, sPar3, aVal, aVar, aBin, aTst, aTstB, onTru, onV, truthD, aUn, aNil, aCons, aStar, itemsA, datas, aTup, aLst, aOf, aAndT, aOrT, aNotT, aAndV, aOrV, aNotV, aIf, aChain, aCB, onSeq, fLen, fTuple, fList, fInt, fAbs, fAdd, fI, fI0, fSub, fLt, fLe, fGt, fGe, fIs, fNeg, aSl, aRev, aNoPart, aPart, aLc, aYes, aFz, aFzT, frzA, frzV, aSeq, aRng1, aRng2, aZip, aEnumT, aEnumL, agName, agNil, agCons, agTup, wipeA, aCall, aCallK, flatD, List.map_cons, List.map_nil, List.length_cons, List.length_nil, List.replicate, List.getElem?_cons_zero, List.getElem?_cons_succ, List.set_cons_zero, List.set_cons_succ, List.cons_append, List.nil_append, Option.map_some, Option.map_none, Nat.sub_self, Nat.reduceSub, Nat.reduceAdd, Nat.reduceLeDiff, Nat.reduceMul, Nat.zero_add, true_and, and_true, forall_const, Bool.false_eq_true, false_implies, implies_true, reduceCtorEq, forall_eq', Bool.true_eq_false, if_true, if_false, reduceIte, ite_true, ite_false, Bool.not_true, Bool.not_false, true_implies, List.length_map]
      rw [fIx_tup ha]
      simp only [pds, aFun, startA, toAV, sNext, sSeq, sRet, sIf, sSet, sAsg, sOwn, sLst, sDrop, sFor, sFrz, sApp, sSetIx, sRaise0, sBrk, sCont, sTry, tryX, noEx, sPar2, sPar3, aVal, aVar, aBin, aTst, aTstB, onTru, onV, truthD, aUn, aNil, aCons, aStar, itemsA, datas, aTup, aLst, aOf, aAndT, aOrT, aNotT, aAndV, aOrV, aNotV, aIf, aChain, aCB, onSeq, fLen, fTuple, fList, fInt, fAbs, fAdd, fI, fI0, fSub, fLt, fLe, fGt, fGe, fIs, fNeg, aSl, aRev, aNoPart, aPart, aLc, aYes, aFz, aFzT, frzA, frzV, aSeq, aRng1, aRng2, aZip, aEnumT, aEnumL, agName, agNil, agCons, agTup, wipeA, aCall, aCallK, flatD, List.map_cons, List.map_nil, List.length_cons, List.length_nil, List.replicate, List.getElem?_cons_zero, List.getElem?_cons_succ, List.set_cons_zero, List.set_cons_succ, List.cons_append, List.nil_append, Option.map_some, Option.map_none, Nat.sub_self, Nat.reduceSub, Nat.reduceAdd, Nat.reduceLeDiff, Nat.reduceMul, Nat.zero_add, true_and, and_true, forall_const, Bool.false_eq_true, false_implies, implies_true, reduceCtorEq, forall_eq', Bool.true_eq_false, if_true, if_false, reduceIte, ite_true, ite_false, Bool.not_true, Bool.not_false, true_implies, List.length_map]
      rw [fIx_tup ho]
      have := fun Q => fEq_pd (a := some (a + s)) (b := o) (Q := Q)
      simp only [pds] at this
      rw [this]
      simp only [aFun, startA, toAV, sNext, sSeq, sRet, sIf, sSet, sAsg, sOwn, sLst, sDrop, sFor, sFrz, sApp, sSetIx, sRaise0, sBrk, sCont, sTry, tryX, noEx, sPar2, sPar3, aVal, aVar, aBin, aTst, aTstB, onTru, onV, truthD, aUn, aNil, aCons, aStar, itemsA, datas, aTup, aLst, aOf, aAndT, aOrT, aNotT, aAndV, aOrV, aNotV, aIf, aChain, aCB, onSeq, fLen, fTuple, fList, fInt, fAbs, fAdd, fI, fI0, fSub, fLt, fLe, fGt, fGe, fIs, fNeg, aSl, aRev, aNoPart, aPart, aLc, aYes, aFz, aFzT, frzA, frzV, aSeq, aRng1, aRng2, aZip, aEnumT, aEnumL, agName, agNil, agCons, agTup, wipeA, aCall, aCallK, flatD, List.map_cons, List.map_nil, List.length_cons, List.length_nil, List.replicate, List.getElem?_cons_zero, List.getElem?_cons_succ, List.set_cons_zero, List.set_cons_succ, List.cons_append, List.nil_append, Option.map_some, Option.map_none, Nat.sub_self, Nat.reduceSub, Nat.reduceAdd, Nat.reduceLeDiff, Nat.reduceMul, Nat.zero_add, true_and, and_true, forall_const, Bool.false_eq_true, false_implies, implies_true, reduceCtorEq, forall_eq', Bool.true_eq_false, if_true, if_false, reduceIte, ite_true, ite_false, Bool.not_true, Bool.not_false, true_implies, List.length_map, ha, ho, Option.join]
      cases o with
      | none => simp
      | some o => by_cases h : a + s = o <;> simp [h]
def mo (line : Row) : List Row → List Nat → Bool
  | [], _ => false
  | r :: rs, m => if (m.filter fun p => !decide (p ∈ tou r line)) = [] then true else mo line rs (m.filter fun p => !decide (p ∈ tou r line))
theorem tou_len (xs ys : Row) : (tou xs ys).length ≤ xs.length := by
  unfold tou
  split
  · simp
  · exact Nat.le_trans (List.length_filter_le _ _) (places_len xs)
theorem mo_loop {line : Row} {x : Option AV} {D : AEnds} {N : Bool → Prop} (hn : ∀ o2 o3 o4 o5, D.nx [x, some (.dat (rowD line)), o2, o3, o4, o5] ↔ N false) (hr : D.rt (.bool true) ↔ N true) (hw : line.length ≤ 1000) : ∀ (rows : List Row) (m : List Nat) (o3 o4 o5 : Option AV),
    (∀ r ∈ rows, r.length = line.length) → m.length ≤ 1000 →
    (forGo (agName 3) S_is_made_of_1 D (rows.map rowD) [x, some (.dat (rowD line)), some (.dat (natsL m)), o3, o4, o5] ↔ N (mo line rows m))
  | [], m, o3, o4, o5, _, _ => by simp only [forGo, List.map_nil, mo, hn]
  | r :: rs, m, o3, o4, o5, hl, hm => by
    have hr1 := hl r (List.mem_cons_self ..)
    have ih := fun m' o3 o4 o5 h => mo_loop hn hr hw rs m' o3 o4 o5 (fun z hz => hl z (List.mem_cons_of_mem _ hz)) h
    rw [List.map_cons]
    unfold forGo
    generalize forGo (agName 3) S_is_made_of_1 D (rs.map rowD) = F at ih ⊢
    simp only [S_is_made_of_1, aFun, startA, toAV, sNext, sSeq, sRet, sIf, sSet, sAsg, sOwn, sLst, sDrop, sFor, sFrz, sApp, sSetIx, sRaise0, sBrk, sCont, sTry, tryX, noEx, sPar2, sPar3, aVal, aVar, aBin, aTst, aTstB, onTru, onV, truthD, aUn, aNil, aCons, aStar, itemsA, datas, aTup, aLst, aOf, aAndT, aOrT, aNotT, aAndV, aOrV, aNotV, aIf, aChain, aCB, onSeq, fLen, fTuple, fList, fInt, fAbs, fAdd, fI, fI0, fSub, fLt, fLe, fGt, fGe, fIs, fNeg, aSl, aRev, aNoPart, aPart, aLc, aYes, aFz, aFzT, frzA, frzV, aSeq, aRng1, aRng2, aZip, aEnumT, aEnumL, agName, agNil, agCons, agTup, wipeA, aCall, aCallK, flatD, List.map_cons, List.map_nil, List.length_cons, List.length_nil, List.replicate, List.getElem?_cons_zero, List.getElem?_cons_succ, List.set_cons_zero, List.set_cons_succ, List.cons_append, List.nil_append, Option.map_some, Option.map_none, Nat.sub_self, Nat.reduceSub, Nat.reduceAdd, Nat.reduceLeDiff, Nat.reduceMul, Nat.zero_add, true_and, and_true, forall_const, Bool.false_eq_true, false_implies, implies_true, reduceCtorEq, forall_eq', Bool.true_eq_false, if_true, if_false, reduceIte, ite_true, ite_false, Bool.not_true, Bool.not_false, true_implies, List.length_map]
    rw [up_iff (sp_touched r line hr1 (by omega))]
    try simp only [aFun, startA, toAV, sNext, sSeq, sRet, sIf, sSet, sAsg, sOwn, sLst, sDrop, sFor, sFrz, sApp, sSetIx, sRaise0, sBrk, sCont, sTry, tryX, noEx, sPar2, sPar3, aVal, aVar, aBin, aTst, aTstB, onTru, onV, truthD, aUn, aNil, aCons, aStar, itemsA, datas, aTup, aLst, aOf, aAndT, aOrT, aNotT, aAndV, aOrV, aNotV, aIf, aChain, aCB, onSeq, fLen, fTuple, fList, fInt, fAbs, fAdd, fI, fI0, fSub, fLt, fLe, fGt, fGe, fIs, fNeg, aSl, aRev, aNoPart, aPart, aLc, aYes, aFz, aFzT, frzA, frzV, aSeq, aRng1, aRng2, aZip, aEnumT, aEnumL, agName, agNil, agCons, agTup, wipeA, aCall, aCallK, flatD, List.map_cons, List.map_nil, List.length_cons, List.length_nil, List.replicate, List.getElem?_cons_zero, List.getElem?_cons_succ, List.set_cons_zero, List.set_cons_succ, List.cons_append, List.nil_append, Option.map_some, Option.map_none, Nat.sub_self, Nat.reduceSub, Nat.reduceAdd, Nat.reduceLeDiff, Nat.reduceMul, Nat.zero_add, true_and, and_true, forall_const, Bool.false_eq_true, false_implies, implies_true, reduceCtorEq, forall_eq', Bool.true_eq_false, if_true, if_false, reduceIte, ite_true, ite_false, Bool.not_true, Bool.not_false, true_implies, List.length_map]
    rw [lcGo_keep (fun p : Nat => !decide (p ∈ tou r line)) (fun p : Nat => .int (p : Nat))]
    · have hz : m.length ≤ 2000000 := by omega
      simp only [hz, true_and, List.nil_append]
      unfold mo
      by_cases h : (m.filter fun p => !decide (p ∈ tou r line)) = []
      · rw [if_pos h, h]
        simpa only [aFun, startA, toAV, sNext, sSeq, sRet, sIf, sSet, sAsg, sOwn, sLst, sDrop, sFor, sFrz, sApp, sSetIx, sRaise0, sBrk, sCont, sTry, tryX, noEx, sPar2, sPar3, aVal, aVar, aBin, aTst, aTstB, onTru, onV, truthD, aUn, aNil, aCons, aStar, itemsA, datas, aTup, aLst, aOf, aAndT, aOrT, aNotT, aAndV, aOrV, aNotV, aIf, aChain, aCB, onSeq, fLen, fTuple, fList, fInt, fAbs, fAdd, fI, fI0, fSub, fLt, fLe, fGt, fGe, fIs, fNeg, aSl, aRev, aNoPart, aPart, aLc, aYes, aFz, aFzT, frzA, frzV, aSeq, aRng1, aRng2, aZip, aEnumT, aEnumL, agName, agNil, agCons, agTup, wipeA, aCall, aCallK, flatD, List.map_cons, List.map_nil, List.length_cons, List.length_nil, List.replicate, List.getElem?_cons_zero, List.getElem?_cons_succ, List.set_cons_zero, List.set_cons_succ, List.cons_append, List.nil_append, Option.map_some, Option.map_none, Nat.sub_self, Nat.reduceSub, Nat.reduceAdd, Nat.reduceLeDiff, Nat.reduceMul, Nat.zero_add, true_and, and_true, forall_const, Bool.false_eq_true, false_implies, implies_true, reduceCtorEq, forall_eq', Bool.true_eq_false, if_true, if_false, reduceIte, ite_true, ite_false, Bool.not_true, Bool.not_false, true_implies, List.length_map, List.isEmpty] using hr
      · rw [if_neg h]
        have h2 : ((m.filter fun p => !decide (p ∈ tou r line)).map fun n : Nat => PyData.int (n : Nat)).isEmpty = false := by
          cases e : (m.filter fun p => !decide (p ∈ tou r line)) with
          | nil => exact absurd e h
          | cons a b => rfl
        simp only [aFun, startA, toAV, sNext, sSeq, sRet, sIf, sSet, sAsg, sOwn, sLst, sDrop, sFor, sFrz, sApp, sSetIx, sRaise0, sBrk, sCont, sTry, tryX, noEx, sPar2, sPar3, aVal, aVar, aBin, aTst, aTstB, onTru, onV, truthD, aUn, aNil, aCons, aStar, itemsA, datas, aTup, aLst, aOf, aAndT, aOrT, aNotT, aAndV, aOrV, aNotV, aIf, aChain, aCB, onSeq, fLen, fTuple, fList, fInt, fAbs, fAdd, fI, fI0, fSub, fLt, fLe, fGt, fGe, fIs, fNeg, aSl, aRev, aNoPart, aPart, aLc, aYes, aFz, aFzT, frzA, frzV, aSeq, aRng1, aRng2, aZip, aEnumT, aEnumL, agName, agNil, agCons, agTup, wipeA, aCall, aCallK, flatD, List.map_cons, List.map_nil, List.length_cons, List.length_nil, List.replicate, List.getElem?_cons_zero, List.getElem?_cons_succ, List.set_cons_zero, List.set_cons_succ, List.cons_append, List.nil_append, Option.map_some, Option.map_none, Nat.sub_self, Nat.reduceSub, Nat.reduceAdd, Nat.reduceLeDiff, Nat.reduceMul, Nat.zero_add, true_and, and_true, forall_const, Bool.false_eq_true, false_implies, implies_true, reduceCtorEq, forall_eq', Bool.true_eq_false, if_true, if_false, reduceIte, ite_true, ite_false, Bool.not_true, Bool.not_false, true_implies, List.length_map, h2]
        exact ih _ _ _ _ (Nat.le_trans (List.length_filter_le _ _) hm)
    · intro p hp R
      simp only [aFun, startA, toAV, sNext, sSeq, sRet, sIf, sSet, sAsg, sOwn, sLst, sDrop, sFor, sFrz, sApp, sSetIx, sRaise0, sBrk, sCont, sTry, tryX, noEx, sPar2, sPar3, aVal, aVar, aBin, aTst, aTstB, onTru, onV, truthD, aUn, aNil, aCons, aStar, itemsA, datas, aTup, aLst, aOf, aAndT, aOrT, aNotT, aAndV, aOrV, aNotV, aIf, aChain, aCB, onSeq, fLen, fTuple, fList, fInt, fAbs, fAdd, fI, fI0, fSub, fLt, fLe, fGt, fGe, fIs, fNeg, aSl, aRev, aNoPart, aPart, aLc, aYes, aFz, aFzT, frzA, frzV, aSeq, aRng1, aRng2, aZip, aEnumT, aEnumL, agName, agNil, agCons, agTup, wipeA, aCall, aCallK, flatD, List.map_cons, List.map_nil, List.length_cons, List.length_nil, List.replicate, List.getElem?_cons_zero, List.getElem?_cons_succ, List.set_cons_zero, List.set_cons_succ, List.cons_append, List.nil_append, Option.map_some, Option.map_none, Nat.sub_self, Nat.reduceSub, Nat.reduceAdd, Nat.reduceLeDiff, Nat.reduceMul, Nat.zero_add, true_and, and_true, forall_const, Bool.false_eq_true, false_implies, implies_true, reduceCtorEq, forall_eq', Bool.true_eq_false, if_true, if_false, reduceIte, ite_true, ite_false, Bool.not_true, Bool.not_false, true_implies, List.length_map]
      rw [fNotIn_nats]
      by_cases h : p ∈ tou r line <;> simp [h, aFun, startA, toAV, sNext, sSeq, sRet, sIf, sSet, sAsg, sOwn, sLst, sDrop, sFor, sFrz, sApp, sSetIx, sRaise0, sBrk, sCont, sTry, tryX, noEx, sPar2, sPar3, aVal, aVar, aBin, aTst, aTstB, onTru, onV, truthD, aUn, aNil, aCons, aStar, itemsA, datas, aTup, aLst, aOf, aAndT, aOrT, aNotT, aAndV, aOrV, aNotV, aIf, aChain, aCB, onSeq, fLen, fTuple, fList, fInt, fAbs, fAdd, fI, fI0, fSub, fLt, fLe, fGt, fGe, fIs, fNeg, aSl, aRev, aNoPart, aPart, aLc, aYes, aFz, aFzT, frzA, frzV, aSeq, aRng1, aRng2, aZip, aEnumT, aEnumL, agName, agNil, agCons, agTup, wipeA, aCall, aCallK, flatD]
theorem sp_made (rows : List Row) (line : Row) (hl : ∀ r ∈ rows, r.length = line.length) (hw : line.length ≤ 1000) (Q : PyData → Prop) (E : AXK) : A_is_made_of [.v (rowsD rows), .v (rowD line)] Q E ↔ Q (.bool (mo line rows (places line))) := by
  simp only [A_is_made_of, S_is_made_of, aFun, startA, toAV, sNext, sSeq, sRet, sIf, sSet, sAsg, sOwn, sLst, sDrop, sFor, sFrz, sApp, sSetIx, sRaise0, sBrk, sCont, sTry, tryX, noEx, sPar2, sPar3, aVal, aVar, aBin, aTst, aTstB, onTru, onV, truthD, aUn, aNil, aCons, aStar, itemsA, datas, aTup, aLst, aOf, aAndT, aOrT, aNotT, aAndV, aOrV, aNotV, aIf, aChain, aCB, onSeq, fLen, fTuple, fList, fInt, fAbs, fAdd, fI, fI0, fSub, fLt, fLe, fGt, fGe, fIs, fNeg, aSl, aRev, aNoPart, aPart, aLc, aYes, aFz, aFzT, frzA, frzV, aSeq, aRng1, aRng2, aZip, aEnumT, aEnumL, agName, agNil, agCons, agTup, wipeA, aCall, aCallK, flatD, List.map_cons, List.map_nil, List.length_cons, List.length_nil, List.replicate, List.getElem?_cons_zero, List.getElem?_cons_succ, List.set_cons_zero, List.set_cons_succ, List.cons_append, List.nil_append, Option.map_some, Option.map_none, Nat.sub_self, Nat.reduceSub, Nat.reduceAdd, Nat.reduceLeDiff, Nat.reduceMul, Nat.zero_add, true_and, and_true, forall_const, Bool.false_eq_true, false_implies, implies_true, reduceCtorEq, forall_eq', Bool.true_eq_false, if_true, if_false, reduceIte, ite_true, ite_false, Bool.not_true, Bool.not_false, true_implies, List.length_map]
  rw [up_iff (sp_places line hw)]
  try simp only [aFun, startA, toAV, sNext, sSeq, sRet, sIf, sSet, sAsg, sOwn, sLst, sDrop, sFor, sFrz, sApp, sSetIx, sRaise0, sBrk, sCont, sTry, tryX, noEx, sPar2, sPar3, aVal, aVar, aBin, aTst, aTstB, onTru, onV, truthD, aUn, aNil, aCons, aStar, itemsA, datas, aTup, aLst, aOf, aAndT, aOrT, aNotT, aAndV, aOrV, aNotV, aIf, aChain, aCB, onSeq, fLen, fTuple, fList, fInt, fAbs, fAdd, fI, fI0, fSub, fLt, fLe, fGt, fGe, fIs, fNeg, aSl, aRev, aNoPart, aPart, aLc, aYes, aFz, aFzT, frzA, frzV, aSeq, aRng1, aRng2, aZip, aEnumT, aEnumL, agName, agNil, agCons, agTup, wipeA, aCall, aCallK, flatD, List.map_cons, List.map_nil, List.length_cons, List.length_nil, List.replicate, List.getElem?_cons_zero, List.getElem?_cons_succ, List.set_cons_zero, List.set_cons_succ, List.cons_append, List.nil_append, Option.map_some, Option.map_none, Nat.sub_self, Nat.reduceSub, Nat.reduceAdd, Nat.reduceLeDiff, Nat.reduceMul, Nat.zero_add, true_and, and_true, forall_const, Bool.false_eq_true, false_implies, implies_true, reduceCtorEq, forall_eq', Bool.true_eq_false, if_true, if_false, reduceIte, ite_true, ite_false, Bool.not_true, Bool.not_false, true_implies, List.length_map]
  exact mo_loop (N := fun b => Q (.bool b)) (fun o2 o3 o4 o5 => by simp only [aFun, startA, toAV, sNext, sSeq, sRet, sIf, sSet, sAsg, sOwn, sLst, sDrop, sFor, sFrz, sApp, sSetIx, sRaise0, sBrk, sCont, sTry, tryX, noEx, sPar2, sPar3, aVal, aVar, aBin, aTst, aTstB, onTru, onV, truthD, aUn, aNil, aCons, aStar, itemsA, datas, aTup, aLst, aOf, aAndT, aOrT, aNotT, aAndV, aOrV, aNotV, aIf, aChain, aCB, onSeq, fLen, fTuple, fList, fInt, fAbs, fAdd, fI, fI0, fSub, fLt, fLe, fGt, fGe, fIs, fNeg, aSl, aRev, aNoPart, aPart, aLc, aYes, aFz, aFzT, frzA, frzV, aSeq, aRng1, aRng2, aZip, aEnumT, aEnumL, agName, agNil, agCons, agTup, wipeA, aCall, aCallK, flatD, List.map_cons, List.map_nil, List.length_cons, List.length_nil, List.replicate, List.getElem?_cons_zero, List.getElem?_cons_succ, List.set_cons_zero, List.set_cons_succ, List.cons_append, List.nil_append, Option.map_some, Option.map_none, Nat.sub_self, Nat.reduceSub, Nat.reduceAdd, Nat.reduceLeDiff, Nat.reduceMul, Nat.zero_add, true_and, and_true, forall_const, Bool.false_eq_true, false_implies, implies_true, reduceCtorEq, forall_eq', Bool.true_eq_false, if_true, if_false, reduceIte, ite_true, ite_false, Bool.not_true, Bool.not_false, true_implies, List.length_map]) Iff.rfl hw rows (places line) none none none hl (by have := places_len line; omega)
theorem sp_in (w : Nat) (rows : List Row) (line : Row) (hl : ∀ r ∈ rows, r.length = w) (hw : line.length ≤ 1000) (Q : PyData → Prop) (E : AXK) : A_is_in [.v (.tuple [.int (w : Nat), rowsD rows]), .v (rowD line)] Q E ↔ (if w = line.length then Q (.bool (mo line rows (places line))) else E ⟨"Unfit", none⟩) := by
  simp only [A_is_in, S_is_in, aFun, startA, toAV, sNext, sSeq, sRet, sIf, sSet, sAsg, sOwn, sLst, sDrop, sFor, sFrz, sApp, sSetIx, sRaise0, sBrk, sCont, sTry, tryX, noEx, sPar2, sPar3, aVal, aVar, aBin, aTst, aTstB, onTru, onV, truthD, aUn, aNil, aCons, aStar, itemsA, datas, aTup, aLst, aOf, aAndT, aOrT, aNotT, aAndV, aOrV, aNotV, aIf, aChain, aCB, onSeq, fLen, fTuple, fList, fInt, fAbs, fAdd, fI, fI0, fSub, fLt, fLe, fGt, fGe, fIs, fNeg, aSl, aRev, aNoPart, aPart, aLc, aYes, aFz, aFzT, frzA, frzV, aSeq, aRng1, aRng2, aZip, aEnumT, aEnumL, agName, agNil, agCons, agTup, wipeA, aCall, aCallK, flatD, List.map_cons, List.map_nil, List.length_cons, List.length_nil, List.replicate, List.getElem?_cons_zero, List.getElem?_cons_succ, List.set_cons_zero, List.set_cons_succ, List.cons_append, List.nil_append, Option.map_some, Option.map_none, Nat.sub_self, Nat.reduceSub, Nat.reduceAdd, Nat.reduceLeDiff, Nat.reduceMul, Nat.zero_add, true_and, and_true, forall_const, Bool.false_eq_true, false_implies, implies_true, reduceCtorEq, forall_eq', Bool.true_eq_false, if_true, if_false, reduceIte, ite_true, ite_false, Bool.not_true, Bool.not_false, true_implies, List.length_map]
  rw [fIx0, up_iffX up_ask]
  by_cases h : w = line.length
  · subst h
    rw [if_pos rfl, if_pos rfl, fIx1, up_iff (sp_made rows line hl hw)]
  · rw [if_neg (by omega), if_neg h]
/-! ### the mathematics -/
/-- own, shifted so that both meet there, is nowhere higher -/
def Rch (own line : Row) (p : Nat) : Prop := ∃ a t, own[p]? = some (some a) ∧ line[p]? = some (some t) ∧ ∀ (q : Nat) (l : Int), own[q]? = some (some l) → ∃ t', line[q]? = some (some t') ∧ l - a ≤ t' - t
def Made (rows : List Row) (line : Row) : Prop := ∀ (p : Nat) (t : Int), line[p]? = some (some t) → ∃ own ∈ rows, Rch own line p
open Classical in
noncomputable def mb (rows : List Row) (line : Row) : Bool := decide (Made rows line)
theorem mb_iff {rows : List Row} {line : Row} : mb rows line = true ↔ Made rows line := by
  unfold mb
  exact @decide_eq_true_iff _ (Classical.propDecidable _)
/-- the shift is the least difference -/
theorem gsh_spec : ∀ (l : List (Option Int × Option Int)) (s0 : Option Int), (gsh l s0 = none ∧ ((∃ a, (some a, none) ∈ l) ∨ (s0 = none ∧ ∀ p ∈ l, p.1 = none))) ∨
    ∃ s, gsh l s0 = some s ∧ (∀ a b, (some a, b) ∈ l → ∃ b', b = some b' ∧ s ≤ b' - a) ∧ (∀ z, s0 = some z → s ≤ z) ∧ ((∃ a b, (some a, some b) ∈ l ∧ s = b - a) ∨ s0 = some s)
  | [], s0 => by
    cases s0 with
    | none => exact .inl ⟨rfl, .inr ⟨rfl, fun p hp => by cases hp⟩⟩
    | some s => exact .inr ⟨s, rfl, fun a b h => by (cases h), fun z h => by cases h; exact Int.le_refl _, .inr rfl⟩
  | (none, b) :: r, s0 => by
    rcases gsh_spec r s0 with ⟨h1, h2⟩ | ⟨s, h1, h2, h3, h4⟩
    · refine .inl ⟨h1, ?_⟩
      rcases h2 with ⟨a, h2⟩ | ⟨h2, h3⟩
      · exact .inl ⟨a, List.mem_cons_of_mem _ h2⟩
      · refine .inr ⟨h2, fun p hp => ?_⟩
        rcases List.mem_cons.mp hp with rfl | hp
        · rfl
        · exact h3 p hp
    · refine .inr ⟨s, h1, fun a b' h => ?_, h3, ?_⟩
      · rcases List.mem_cons.mp h with h | h
        · cases h
        · exact h2 a b' h
      · rcases h4 with ⟨a, b', h4, h5⟩ | h4
        · exact .inl ⟨a, b', List.mem_cons_of_mem _ h4, h5⟩
        · exact .inr h4
  | (some a, none) :: r, s0 => .inl ⟨rfl, .inl ⟨a, List.mem_cons_self ..⟩⟩
  | (some a, some b) :: r, s0 => by
    obtain ⟨z, e, hz, hz2⟩ : ∃ z, gsh ((some a, some b) :: r) s0 = gsh r (some z) ∧ z ≤ b - a ∧ (∀ y, s0 = some y → z ≤ y) ∧ (z = b - a ∨ s0 = some z) := by
      cases s0 with
      | none => exact ⟨b - a, rfl, Int.le_refl _, fun y h => (by cases h), .inl rfl⟩
      | some s =>
        refine ⟨_, rfl, ?_, fun y h => ?_, ?_⟩
        · split <;> omega
        · cases h; split <;> omega
        · split
          · exact .inl rfl
          · exact .inr rfl
    rw [e]
    rcases gsh_spec r (some z) with ⟨h1, h2⟩ | ⟨s, h1, h2, h3, h4⟩
    · refine .inl ⟨h1, ?_⟩
      rcases h2 with ⟨a', h2⟩ | ⟨h2, _⟩
      · exact .inl ⟨a', List.mem_cons_of_mem _ h2⟩
      · cases h2
    · have hs := h3 z rfl
      refine .inr ⟨s, h1, fun a' b' h => ?_, fun y hy => ?_, ?_⟩
      · rcases List.mem_cons.mp h with h | h
        · cases h; exact ⟨b, rfl, by omega⟩
        · exact h2 a' b' h
      · have := hz2.1 y hy; omega
      · rcases h4 with ⟨a', b', h4, h5⟩ | h4
        · exact .inl ⟨a', b', List.mem_cons_of_mem _ h4, h5⟩
        · cases h4
          rcases hz2.2 with h | h
          · exact .inl ⟨a, b, List.mem_cons_self .., h⟩
          · exact .inr h
theorem mem_zip_iff {xs ys : Row} (hl : xs.length = ys.length) {a b : Option Int} : (a, b) ∈ xs.zip ys ↔ ∃ q : Nat, xs[q]? = some a ∧ ys[q]? = some b := by
  rw [List.mem_iff_getElem?]
  constructor
  · rintro ⟨q, h⟩
    rw [List.getElem?_zip_eq_some] at h
    exact ⟨q, h⟩
  · rintro ⟨q, h⟩
    exact ⟨q, by rw [List.getElem?_zip_eq_some]; exact h⟩
theorem tou_iff {own line : Row} (hl : own.length = line.length) {p : Nat} : p ∈ tou own line ↔ Rch own line p := by
  unfold tou
  rcases gsh_spec (own.zip line) none with ⟨h1, h2⟩ | ⟨s, h1, h2, h3, h4⟩
  · rw [h1]
    constructor
    · intro h; cases h
    · rintro ⟨a, t, g1, g2, g3⟩
      rcases h2 with ⟨a', h2⟩ | ⟨_, h2⟩
      · obtain ⟨q, k1, k2⟩ := (mem_zip_iff hl).mp h2
        obtain ⟨t', k3, _⟩ := g3 q a' k1
        rw [k2] at k3; cases k3
      · have := h2 (some a, some t) ((mem_zip_iff hl).mpr ⟨p, g1, g2⟩)
        cases this
  · rw [h1]
    simp only [List.mem_filter, mem_places, decide_eq_true_eq]
    constructor
    · rintro ⟨⟨a, ha⟩, h⟩
      rw [ha] at h
      cases e : line[p]? with
      | none =>
        have : p < own.length := (List.getElem?_eq_some_iff.mp ha).1
        rw [hl] at this
        rw [List.getElem?_eq_getElem this] at e; cases e
      | some o =>
        rw [e] at h
        cases o with
        | none => simp at h
        | some t =>
          simp at h
          refine ⟨a, t, ha, e, fun q l hq => ?_⟩
          have hq2 : q < line.length := by rw [← hl]; exact (List.getElem?_eq_some_iff.mp hq).1
          obtain ⟨b', k1, k2⟩ := h2 l (line[q]) ((mem_zip_iff hl).mpr ⟨q, hq, List.getElem?_eq_getElem hq2⟩)
          exact ⟨b', by rw [List.getElem?_eq_getElem hq2, k1], by omega⟩
    · rintro ⟨a, t, g1, g2, g3⟩
      refine ⟨⟨a, g1⟩, ?_⟩
      rw [g1, g2]
      obtain ⟨b', k1, k2⟩ := h2 a (some t) ((mem_zip_iff hl).mpr ⟨p, g1, g2⟩)
      cases k1
      rcases h4 with ⟨x, y, h4, h5⟩ | h4
      · obtain ⟨q, k3, k4⟩ := (mem_zip_iff hl).mp h4
        obtain ⟨t', k5, k6⟩ := g3 q x k3
        rw [k4] at k5; cases k5
        simp
        omega
      · cases h4
theorem mo_iff {line : Row} : ∀ (rows : List Row) (m : List Nat), m ≠ [] → (mo line rows m = true ↔ ∀ p ∈ m, ∃ r ∈ rows, p ∈ tou r line)
  | [], m, hm => by
    simp only [mo, Bool.false_eq_true, false_iff]
    intro h
    cases m with
    | nil => exact hm rfl
    | cons a m => obtain ⟨r, hr, _⟩ := h a (List.mem_cons_self ..); cases hr
  | r :: rs, m, hm => by
    unfold mo
    by_cases h : (m.filter fun p => !decide (p ∈ tou r line)) = []
    · rw [if_pos h]
      simp only [true_iff]
      intro p hp
      have := List.filter_eq_nil_iff.mp h p hp
      exact ⟨r, List.mem_cons_self .., by simpa using this⟩
    · rw [if_neg h, mo_iff rs _ h]
      constructor
      · intro k p hp
        by_cases hq : p ∈ tou r line
        · exact ⟨r, List.mem_cons_self .., hq⟩
        · obtain ⟨r', h1, h2⟩ := k p (List.mem_filter.mpr ⟨hp, by simpa using hq⟩)
          exact ⟨r', List.mem_cons_of_mem _ h1, h2⟩
      · intro k p hp
        obtain ⟨h1, h2⟩ := List.mem_filter.mp hp
        obtain ⟨r', h3, h4⟩ := k p h1
        rcases List.mem_cons.mp h3 with rfl | h3
        · simp [h4] at h2
        · exact ⟨r', h3, h4⟩
theorem mo_mb {line : Row} {rows : List Row} (hl : ∀ r ∈ rows, r.length = line.length) (hi : ∃ (p : Nat) (a : Int), line[p]? = some (some a)) : mo line rows (places line) = mb rows line := by
  have hne : places line ≠ [] := by
    obtain ⟨p, a, h⟩ := hi
    intro e
    have := mem_places.mpr ⟨a, h⟩
    rw [e] at this; cases this
  rw [Bool.eq_iff_iff, mo_iff rows _ hne, mb_iff]
  constructor
  · intro k p t hp
    obtain ⟨r, h1, h2⟩ := k p (mem_places.mpr ⟨t, hp⟩)
    exact ⟨r, h1, (tou_iff (hl r h1)).mp h2⟩
  · intro k p hp
    obtain ⟨a, ha⟩ := mem_places.mp hp
    obtain ⟨r, h1, h2⟩ := k p a ha
    exact ⟨r, h1, (tou_iff (hl r h1)).mpr h2⟩
end K8

namespace K8
open PySem L2 RW RZ PySem.RW U AL
/-! ### the law's own looks -/
def plus (xs : Row) (c : Int) : Row := xs.map (Option.map (· + c))
theorem sp_plus (xs : Row) (c : Int) (hl : xs.length ≤ 1000) (Q : PyData → Prop) (E : AXK) : A_law_plus [.v (rowD xs), .v (.int c)] Q E ↔ Q (rowD (plus xs c)) := by
  simp only [A_law_plus, S_law_plus, aFun, startA, toAV, sNext, sSeq, sRet, sIf, sSet, sAsg, sOwn, sLst, sDrop, sFor, sFrz, sApp, sSetIx, sRaise0, sBrk, sCont, sTry, tryX, noEx, sPar2, sPar3, aVal, aVar, aBin, aTst, aTstB, onTru, onV, truthD, aUn, aNil, aCons, aStar, itemsA, datas, aTup, aLst, aOf, aAndT, aOrT, aNotT, aAndV, aOrV, aNotV, aIf, aChain, aCB, onSeq, fLen, fTuple, fList, fInt, fAbs, fAdd, fI, fI0, fSub, fLt, fLe, fGt, fGe, fIs, fNeg, aSl, aRev, aNoPart, aPart, aLc, aYes, aFz, aFzT, frzA, frzV, aSeq, aRng1, aRng2, aZip, aEnumT, aEnumL, agName, agNil, agCons, agTup, wipeA, aCall, aCallK, flatD, List.map_cons, List.map_nil, List.length_cons, List.length_nil, List.replicate, List.getElem?_cons_zero, List.getElem?_cons_succ, List.set_cons_zero, List.set_cons_succ, List.cons_append, List.nil_append, Option.map_some, Option.map_none, Nat.sub_self, Nat.reduceSub, Nat.reduceAdd, Nat.reduceLeDiff, Nat.reduceMul, Nat.zero_add, true_and, and_true, forall_const, Bool.false_eq_true, false_implies, implies_true, reduceCtorEq, forall_eq', Bool.true_eq_false, if_true, if_false, reduceIte, ite_true, ite_false, Bool.not_true, Bool.not_false, true_implies, List.length_map]
  rw [lcGo_map (fun o : Option Int => pd (o.map (· + c)))]
  · have hz : xs.length ≤ 2000000 := by omega
    simp only [hz, true_and, List.nil_append, aFun, startA, toAV, sNext, sSeq, sRet, sIf, sSet, sAsg, sOwn, sLst, sDrop, sFor, sFrz, sApp, sSetIx, sRaise0, sBrk, sCont, sTry, tryX, noEx, sPar2, sPar3, aVal, aVar, aBin, aTst, aTstB, onTru, onV, truthD, aUn, aNil, aCons, aStar, itemsA, datas, aTup, aLst, aOf, aAndT, aOrT, aNotT, aAndV, aOrV, aNotV, aIf, aChain, aCB, onSeq, fLen, fTuple, fList, fInt, fAbs, fAdd, fI, fI0, fSub, fLt, fLe, fGt, fGe, fIs, fNeg, aSl, aRev, aNoPart, aPart, aLc, aYes, aFz, aFzT, frzA, frzV, aSeq, aRng1, aRng2, aZip, aEnumT, aEnumL, agName, agNil, agCons, agTup, wipeA, aCall, aCallK, flatD, rowD, plus, List.map_map]
    exact Iff.rfl
  · intro o ho R
    cases o <;> simp only [aFun, startA, toAV, sNext, sSeq, sRet, sIf, sSet, sAsg, sOwn, sLst, sDrop, sFor, sFrz, sApp, sSetIx, sRaise0, sBrk, sCont, sTry, tryX, noEx, sPar2, sPar3, aVal, aVar, aBin, aTst, aTstB, onTru, onV, truthD, aUn, aNil, aCons, aStar, itemsA, datas, aTup, aLst, aOf, aAndT, aOrT, aNotT, aAndV, aOrV, aNotV, aIf, aChain, aCB, onSeq, fLen, fTuple, fList, fInt, fAbs, fAdd, fI, fI0, fSub, fLt, fLe, fGt, fGe, fIs, fNeg, aSl, aRev, aNoPart, aPart, aLc, aYes, aFz, aFzT, frzA, frzV, aSeq, aRng1, aRng2, aZip, aEnumT, aEnumL, agName, agNil, agCons, agTup, wipeA, aCall, aCallK, flatD, List.map_cons, List.map_nil, List.length_cons, List.length_nil, List.replicate, List.getElem?_cons_zero, List.getElem?_cons_succ, List.set_cons_zero, List.set_cons_succ, List.cons_append, List.nil_append, Option.map_some, Option.map_none, Nat.sub_self, Nat.reduceSub, Nat.reduceAdd, Nat.reduceLeDiff, Nat.reduceMul, Nat.zero_add, true_and, and_true, forall_const, Bool.false_eq_true, false_implies, implies_true, reduceCtorEq, forall_eq', Bool.true_eq_false, if_true, if_false, reduceIte, ite_true, ite_false, Bool.not_true, Bool.not_false, true_implies, List.length_map, pdn, pds, isNone]
def moreN : Option Int → Option Int → Option Int
  | none, b => b
  | some a, none => some a
  | some a, some b => if b < a then some a else some b
theorem sp_more (a b : Option Int) (Q : PyData → Prop) (E : AXK) : A_law_more [.v (pd a), .v (pd b)] Q E ↔ Q (pd (moreN a b)) := by
  simp only [A_law_more, S_law_more, aFun, startA, toAV, sNext, sSeq, sRet, sIf, sSet, sAsg, sOwn, sLst, sDrop, sFor, sFrz, sApp, sSetIx, sRaise0, sBrk, sCont, sTry, tryX, noEx, sPar2, sPar3, aVal, aVar, aBin, aTst, aTstB, onTru, onV, truthD, aUn, aNil, aCons, aStar, itemsA, datas, aTup, aLst, aOf, aAndT, aOrT, aNotT, aAndV, aOrV, aNotV, aIf, aChain, aCB, onSeq, fLen, fTuple, fList, fInt, fAbs, fAdd, fI, fI0, fSub, fLt, fLe, fGt, fGe, fIs, fNeg, aSl, aRev, aNoPart, aPart, aLc, aYes, aFz, aFzT, frzA, frzV, aSeq, aRng1, aRng2, aZip, aEnumT, aEnumL, agName, agNil, agCons, agTup, wipeA, aCall, aCallK, flatD, List.map_cons, List.map_nil, List.length_cons, List.length_nil, List.replicate, List.getElem?_cons_zero, List.getElem?_cons_succ, List.set_cons_zero, List.set_cons_succ, List.cons_append, List.nil_append, Option.map_some, Option.map_none, Nat.sub_self, Nat.reduceSub, Nat.reduceAdd, Nat.reduceLeDiff, Nat.reduceMul, Nat.zero_add, true_and, and_true, forall_const, Bool.false_eq_true, false_implies, implies_true, reduceCtorEq, forall_eq', Bool.true_eq_false, if_true, if_false, reduceIte, ite_true, ite_false, Bool.not_true, Bool.not_false, true_implies, List.length_map]
  cases a with
  | none => simp only [aFun, startA, toAV, sNext, sSeq, sRet, sIf, sSet, sAsg, sOwn, sLst, sDrop, sFor, sFrz, sApp, sSetIx, sRaise0, sBrk, sCont, sTry, tryX, noEx, sPar2, sPar3, aVal, aVar, aBin, aTst, aTstB, onTru, onV, truthD, aUn, aNil, aCons, aStar, itemsA, datas, aTup, aLst, aOf, aAndT, aOrT, aNotT, aAndV, aOrV, aNotV, aIf, aChain, aCB, onSeq, fLen, fTuple, fList, fInt, fAbs, fAdd, fI, fI0, fSub, fLt, fLe, fGt, fGe, fIs, fNeg, aSl, aRev, aNoPart, aPart, aLc, aYes, aFz, aFzT, frzA, frzV, aSeq, aRng1, aRng2, aZip, aEnumT, aEnumL, agName, agNil, agCons, agTup, wipeA, aCall, aCallK, flatD, List.map_cons, List.map_nil, List.length_cons, List.length_nil, List.replicate, List.getElem?_cons_zero, List.getElem?_cons_succ, List.set_cons_zero, List.set_cons_succ, List.cons_append, List.nil_append, Option.map_some, Option.map_none, Nat.sub_self, Nat.reduceSub, Nat.reduceAdd, Nat.reduceLeDiff, Nat.reduceMul, Nat.zero_add, true_and, and_true, forall_const, Bool.false_eq_true, false_implies, implies_true, reduceCtorEq, forall_eq', Bool.true_eq_false, if_true, if_false, reduceIte, ite_true, ite_false, Bool.not_true, Bool.not_false, true_implies, List.length_map, pdn, pds, isNone, moreN]
  | some a =>
    cases b with
    | none => simp only [aFun, startA, toAV, sNext, sSeq, sRet, sIf, sSet, sAsg, sOwn, sLst, sDrop, sFor, sFrz, sApp, sSetIx, sRaise0, sBrk, sCont, sTry, tryX, noEx, sPar2, sPar3, aVal, aVar, aBin, aTst, aTstB, onTru, onV, truthD, aUn, aNil, aCons, aStar, itemsA, datas, aTup, aLst, aOf, aAndT, aOrT, aNotT, aAndV, aOrV, aNotV, aIf, aChain, aCB, onSeq, fLen, fTuple, fList, fInt, fAbs, fAdd, fI, fI0, fSub, fLt, fLe, fGt, fGe, fIs, fNeg, aSl, aRev, aNoPart, aPart, aLc, aYes, aFz, aFzT, frzA, frzV, aSeq, aRng1, aRng2, aZip, aEnumT, aEnumL, agName, agNil, agCons, agTup, wipeA, aCall, aCallK, flatD, List.map_cons, List.map_nil, List.length_cons, List.length_nil, List.replicate, List.getElem?_cons_zero, List.getElem?_cons_succ, List.set_cons_zero, List.set_cons_succ, List.cons_append, List.nil_append, Option.map_some, Option.map_none, Nat.sub_self, Nat.reduceSub, Nat.reduceAdd, Nat.reduceLeDiff, Nat.reduceMul, Nat.zero_add, true_and, and_true, forall_const, Bool.false_eq_true, false_implies, implies_true, reduceCtorEq, forall_eq', Bool.true_eq_false, if_true, if_false, reduceIte, ite_true, ite_false, Bool.not_true, Bool.not_false, true_implies, List.length_map, pdn, pds, isNone, moreN]
    | some b => by_cases h : b < a <;> simp only [aFun, startA, toAV, sNext, sSeq, sRet, sIf, sSet, sAsg, sOwn, sLst, sDrop, sFor, sFrz, sApp, sSetIx, sRaise0, sBrk, sCont, sTry, tryX, noEx, sPar2, sPar3, aVal, aVar, aBin, aTst, aTstB, onTru, onV, truthD, aUn, aNil, aCons, aStar, itemsA, datas, aTup, aLst, aOf, aAndT, aOrT, aNotT, aAndV, aOrV, aNotV, aIf, aChain, aCB, onSeq, fLen, fTuple, fList, fInt, fAbs, fAdd, fI, fI0, fSub, fLt, fLe, fGt, fGe, fIs, fNeg, aSl, aRev, aNoPart, aPart, aLc, aYes, aFz, aFzT, frzA, frzV, aSeq, aRng1, aRng2, aZip, aEnumT, aEnumL, agName, agNil, agCons, agTup, wipeA, aCall, aCallK, flatD, List.map_cons, List.map_nil, List.length_cons, List.length_nil, List.replicate, List.getElem?_cons_zero, List.getElem?_cons_succ, List.set_cons_zero, List.set_cons_succ, List.cons_append, List.nil_append, Option.map_some, Option.map_none, Nat.sub_self, Nat.reduceSub, Nat.reduceAdd, Nat.reduceLeDiff, Nat.reduceMul, Nat.zero_add, true_and, and_true, forall_const, Bool.false_eq_true, false_implies, implies_true, reduceCtorEq, forall_eq', Bool.true_eq_false, if_true, if_false, reduceIte, ite_true, ite_false, Bool.not_true, Bool.not_false, true_implies, List.length_map, pdn, pds, isNone, moreN, h, decide_true, decide_false]
def rcB (a t : Int) (p : Option Int × Option Int) : Bool := match p with
  | (none, _) => true
  | (some _, none) => false
  | (some l, some u) => decide (l - a ≤ u - t)
theorem reach_loop {own line : Row} {p : Nat} {a t : Int} (ha : own[p]? = some (some a)) (ht : line[p]? = some (some t)) {D : AEnds} {N : Bool → Prop} (hn : ∀ o3 o4, D.nx [some (.dat (rowD own)), some (.dat (rowD line)), some (.dat (.int (p : Nat))), o3, o4] ↔ N true) (hr : D.rt (.bool false) ↔ N false) : ∀ (l : List (Option Int × Option Int)) (o3 o4 : Option AV),
    forGo (agTup 2 (agCons (agName 3) (agCons (agName 4) agNil))) S_law_reaches_1 D (l.map fun p => .tuple [pd p.1, pd p.2]) [some (.dat (rowD own)), some (.dat (rowD line)), some (.dat (.int (p : Nat))), o3, o4] ↔ N (l.all (rcB a t))
  | [], o3, o4 => by simp only [forGo, List.map_nil, List.all_nil, hn]
  | (x, y) :: r, o3, o4 => by
    have ih := reach_loop ha ht hn hr r
    rw [List.map_cons]
    unfold forGo
    generalize forGo (agTup 2 (agCons (agName 3) (agCons (agName 4) agNil))) S_law_reaches_1 D (r.map fun p => .tuple [pd p.1, pd p.2]) = F at ih ⊢
    rw [List.all_cons]
    cases x with
    | none => simpa only [S_law_reaches_1, aFun, startA, toAV, sNext, sSeq, sRet, sIf, sSet, sAsg, sOwn, sLst, sDrop, sFor, sFrz, sApp, sSetIx, sRaise0, sBrk, sCont, sTry, tryX, noEx, sPar2, sPar3, aVal, aVar, aBin, aTst, aTstB, onTru, onV, truthD, aUn, aNil, aCons, aStar, itemsA, datas, aTup, aLst, aOf, aAndT, aOrT, aNotT, aAndV, aOrV, aNotV, aIf, aChain, aCB, onSeq, fLen, fTuple, fList, fInt, fAbs, fAdd, fI, fI0, fSub, fLt, fLe, fGt, fGe, fIs, fNeg, aSl, aRev, aNoPart, aPart, aLc, aYes, aFz, aFzT, frzA, frzV, aSeq, aRng1, aRng2, aZip, aEnumT, aEnumL, agName, agNil, agCons, agTup, wipeA, aCall, aCallK, flatD, List.map_cons, List.map_nil, List.length_cons, List.length_nil, List.replicate, List.getElem?_cons_zero, List.getElem?_cons_succ, List.set_cons_zero, List.set_cons_succ, List.cons_append, List.nil_append, Option.map_some, Option.map_none, Nat.sub_self, Nat.reduceSub, Nat.reduceAdd, Nat.reduceLeDiff, Nat.reduceMul, Nat.zero_add, true_and, and_true, forall_const, Bool.false_eq_true, false_implies, implies_true, reduceCtorEq, forall_eq', Bool.true_eq_false, if_true, if_false, reduceIte, ite_true, ite_false, Bool.not_true, Bool.not_false, true_implies, List.length_map, pdn, isNone, rcB, Bool.true_and] using ih _ _
    | some x =>
      cases y with
      | none => simpa only [S_law_reaches_1, aFun, startA, toAV, sNext, sSeq, sRet, sIf, sSet, sAsg, sOwn, sLst, sDrop, sFor, sFrz, sApp, sSetIx, sRaise0, sBrk, sCont, sTry, tryX, noEx, sPar2, sPar3, aVal, aVar, aBin, aTst, aTstB, onTru, onV, truthD, aUn, aNil, aCons, aStar, itemsA, datas, aTup, aLst, aOf, aAndT, aOrT, aNotT, aAndV, aOrV, aNotV, aIf, aChain, aCB, onSeq, fLen, fTuple, fList, fInt, fAbs, fAdd, fI, fI0, fSub, fLt, fLe, fGt, fGe, fIs, fNeg, aSl, aRev, aNoPart, aPart, aLc, aYes, aFz, aFzT, frzA, frzV, aSeq, aRng1, aRng2, aZip, aEnumT, aEnumL, agName, agNil, agCons, agTup, wipeA, aCall, aCallK, flatD, List.map_cons, List.map_nil, List.length_cons, List.length_nil, List.replicate, List.getElem?_cons_zero, List.getElem?_cons_succ, List.set_cons_zero, List.set_cons_succ, List.cons_append, List.nil_append, Option.map_some, Option.map_none, Nat.sub_self, Nat.reduceSub, Nat.reduceAdd, Nat.reduceLeDiff, Nat.reduceMul, Nat.zero_add, true_and, and_true, forall_const, Bool.false_eq_true, false_implies, implies_true, reduceCtorEq, forall_eq', Bool.true_eq_false, if_true, if_false, reduceIte, ite_true, ite_false, Bool.not_true, Bool.not_false, true_implies, List.length_map, pdn, pds, isNone, rcB, Bool.false_and] using hr
      | some y =>
        simp only [S_law_reaches_1, aFun, startA, toAV, sNext, sSeq, sRet, sIf, sSet, sAsg, sOwn, sLst, sDrop, sFor, sFrz, sApp, sSetIx, sRaise0, sBrk, sCont, sTry, tryX, noEx, sPar2, sPar3, aVal, aVar, aBin, aTst, aTstB, onTru, onV, truthD, aUn, aNil, aCons, aStar, itemsA, datas, aTup, aLst, aOf, aAndT, aOrT, aNotT, aAndV, aOrV, aNotV, aIf, aChain, aCB, onSeq, fLen, fTuple, fList, fInt, fAbs, fAdd, fI, fI0, fSub, fLt, fLe, fGt, fGe, fIs, fNeg, aSl, aRev, aNoPart, aPart, aLc, aYes, aFz, aFzT, frzA, frzV, aSeq, aRng1, aRng2, aZip, aEnumT, aEnumL, agName, agNil, agCons, agTup, wipeA, aCall, aCallK, flatD, List.map_cons, List.map_nil, List.length_cons, List.length_nil, List.replicate, List.getElem?_cons_zero, List.getElem?_cons_succ, List.set_cons_zero, List.set_cons_succ, List.cons_append, List.nil_append, Option.map_some, Option.map_none, Nat.sub_self, Nat.reduceSub, Nat.reduceAdd, Nat.reduceLeDiff, Nat.reduceMul, Nat.zero_add, true_and, and_true, forall_const, Bool.false_eq_true, false_implies, implies_true, reduceCtorEq, forall_eq', Bool.true_eq_false, if_true, if_false, reduceIte, ite_true, ite_false, Bool.not_true, Bool.not_false, true_implies, List.length_map, pdn, pds, isNone, rcB]
        rw [fIx_tup ha]
        simp only [pds, aFun, startA, toAV, sNext, sSeq, sRet, sIf, sSet, sAsg, sOwn, sLst, sDrop, sFor, sFrz, sApp, sSetIx, sRaise0, sBrk, sCont, sTry, tryX, noEx, sPar2, sPar3, aVal, aVar, aBin, aTst, aTstB, onTru, onV, truthD, aUn, aNil, aCons, aStar, itemsA, datas, aTup, aLst, aOf, aAndT, aOrT, aNotT, aAndV, aOrV, aNotV, aIf, aChain, aCB, onSeq, fLen, fTuple, fList, fInt, fAbs, fAdd, fI, fI0, fSub, fLt, fLe, fGt, fGe, fIs, fNeg, aSl, aRev, aNoPart, aPart, aLc, aYes, aFz, aFzT, frzA, frzV, aSeq, aRng1, aRng2, aZip, aEnumT, aEnumL, agName, agNil, agCons, agTup, wipeA, aCall, aCallK, flatD, List.map_cons, List.map_nil, List.length_cons, List.length_nil, List.replicate, List.getElem?_cons_zero, List.getElem?_cons_succ, List.set_cons_zero, List.set_cons_succ, List.cons_append, List.nil_append, Option.map_some, Option.map_none, Nat.sub_self, Nat.reduceSub, Nat.reduceAdd, Nat.reduceLeDiff, Nat.reduceMul, Nat.zero_add, true_and, and_true, forall_const, Bool.false_eq_true, false_implies, implies_true, reduceCtorEq, forall_eq', Bool.true_eq_false, if_true, if_false, reduceIte, ite_true, ite_false, Bool.not_true, Bool.not_false, true_implies, List.length_map]
        rw [fIx_tup ht]
        by_cases h : x - a ≤ y - t
        · have h2 : ¬ y - t < x - a := by omega
          simp only [aFun, startA, toAV, sNext, sSeq, sRet, sIf, sSet, sAsg, sOwn, sLst, sDrop, sFor, sFrz, sApp, sSetIx, sRaise0, sBrk, sCont, sTry, tryX, noEx, sPar2, sPar3, aVal, aVar, aBin, aTst, aTstB, onTru, onV, truthD, aUn, aNil, aCons, aStar, itemsA, datas, aTup, aLst, aOf, aAndT, aOrT, aNotT, aAndV, aOrV, aNotV, aIf, aChain, aCB, onSeq, fLen, fTuple, fList, fInt, fAbs, fAdd, fI, fI0, fSub, fLt, fLe, fGt, fGe, fIs, fNeg, aSl, aRev, aNoPart, aPart, aLc, aYes, aFz, aFzT, frzA, frzV, aSeq, aRng1, aRng2, aZip, aEnumT, aEnumL, agName, agNil, agCons, agTup, wipeA, aCall, aCallK, flatD, List.map_cons, List.map_nil, List.length_cons, List.length_nil, List.replicate, List.getElem?_cons_zero, List.getElem?_cons_succ, List.set_cons_zero, List.set_cons_succ, List.cons_append, List.nil_append, Option.map_some, Option.map_none, Nat.sub_self, Nat.reduceSub, Nat.reduceAdd, Nat.reduceLeDiff, Nat.reduceMul, Nat.zero_add, true_and, and_true, forall_const, Bool.false_eq_true, false_implies, implies_true, reduceCtorEq, forall_eq', Bool.true_eq_false, if_true, if_false, reduceIte, ite_true, ite_false, Bool.not_true, Bool.not_false, true_implies, List.length_map, pds, h, h2, decide_true, decide_false, Bool.true_and]
          exact ih _ _
        · have h2 : y - t < x - a := by omega
          simp only [aFun, startA, toAV, sNext, sSeq, sRet, sIf, sSet, sAsg, sOwn, sLst, sDrop, sFor, sFrz, sApp, sSetIx, sRaise0, sBrk, sCont, sTry, tryX, noEx, sPar2, sPar3, aVal, aVar, aBin, aTst, aTstB, onTru, onV, truthD, aUn, aNil, aCons, aStar, itemsA, datas, aTup, aLst, aOf, aAndT, aOrT, aNotT, aAndV, aOrV, aNotV, aIf, aChain, aCB, onSeq, fLen, fTuple, fList, fInt, fAbs, fAdd, fI, fI0, fSub, fLt, fLe, fGt, fGe, fIs, fNeg, aSl, aRev, aNoPart, aPart, aLc, aYes, aFz, aFzT, frzA, frzV, aSeq, aRng1, aRng2, aZip, aEnumT, aEnumL, agName, agNil, agCons, agTup, wipeA, aCall, aCallK, flatD, List.map_cons, List.map_nil, List.length_cons, List.length_nil, List.replicate, List.getElem?_cons_zero, List.getElem?_cons_succ, List.set_cons_zero, List.set_cons_succ, List.cons_append, List.nil_append, Option.map_some, Option.map_none, Nat.sub_self, Nat.reduceSub, Nat.reduceAdd, Nat.reduceLeDiff, Nat.reduceMul, Nat.zero_add, true_and, and_true, forall_const, Bool.false_eq_true, false_implies, implies_true, reduceCtorEq, forall_eq', Bool.true_eq_false, if_true, if_false, reduceIte, ite_true, ite_false, Bool.not_true, Bool.not_false, true_implies, List.length_map, pds, h, h2, decide_true, decide_false, Bool.false_and]
          exact hr
theorem sp_reaches {own line : Row} {p : Nat} {a t : Int} (ha : own[p]? = some (some a)) (ht : line[p]? = some (some t)) (Q : PyData → Prop) (E : AXK) : A_law_reaches [.v (rowD own), .v (rowD line), .v (.int (p : Nat))] Q E ↔ Q (.bool ((own.zip line).all (rcB a t))) := by
  simp only [A_law_reaches, S_law_reaches, aFun, startA, toAV, sNext, sSeq, sRet, sIf, sSet, sAsg, sOwn, sLst, sDrop, sFor, sFrz, sApp, sSetIx, sRaise0, sBrk, sCont, sTry, tryX, noEx, sPar2, sPar3, aVal, aVar, aBin, aTst, aTstB, onTru, onV, truthD, aUn, aNil, aCons, aStar, itemsA, datas, aTup, aLst, aOf, aAndT, aOrT, aNotT, aAndV, aOrV, aNotV, aIf, aChain, aCB, onSeq, fLen, fTuple, fList, fInt, fAbs, fAdd, fI, fI0, fSub, fLt, fLe, fGt, fGe, fIs, fNeg, aSl, aRev, aNoPart, aPart, aLc, aYes, aFz, aFzT, frzA, frzV, aSeq, aRng1, aRng2, aZip, aEnumT, aEnumL, agName, agNil, agCons, agTup, wipeA, aCall, aCallK, flatD, List.map_cons, List.map_nil, List.length_cons, List.length_nil, List.replicate, List.getElem?_cons_zero, List.getElem?_cons_succ, List.set_cons_zero, List.set_cons_succ, List.cons_append, List.nil_append, Option.map_some, Option.map_none, Nat.sub_self, Nat.reduceSub, Nat.reduceAdd, Nat.reduceLeDiff, Nat.reduceMul, Nat.zero_add, true_and, and_true, forall_const, Bool.false_eq_true, false_implies, implies_true, reduceCtorEq, forall_eq', Bool.true_eq_false, if_true, if_false, reduceIte, ite_true, ite_false, Bool.not_true, Bool.not_false, true_implies, List.length_map, zipD_map]
  exact reach_loop ha ht (N := fun b => Q (.bool b)) (fun o3 o4 => by simp only [aFun, startA, toAV, sNext, sSeq, sRet, sIf, sSet, sAsg, sOwn, sLst, sDrop, sFor, sFrz, sApp, sSetIx, sRaise0, sBrk, sCont, sTry, tryX, noEx, sPar2, sPar3, aVal, aVar, aBin, aTst, aTstB, onTru, onV, truthD, aUn, aNil, aCons, aStar, itemsA, datas, aTup, aLst, aOf, aAndT, aOrT, aNotT, aAndV, aOrV, aNotV, aIf, aChain, aCB, onSeq, fLen, fTuple, fList, fInt, fAbs, fAdd, fI, fI0, fSub, fLt, fLe, fGt, fGe, fIs, fNeg, aSl, aRev, aNoPart, aPart, aLc, aYes, aFz, aFzT, frzA, frzV, aSeq, aRng1, aRng2, aZip, aEnumT, aEnumL, agName, agNil, agCons, agTup, wipeA, aCall, aCallK, flatD, List.map_cons, List.map_nil, List.length_cons, List.length_nil, List.replicate, List.getElem?_cons_zero, List.getElem?_cons_succ, List.set_cons_zero, List.set_cons_succ, List.cons_append, List.nil_append, Option.map_some, Option.map_none, Nat.sub_self, Nat.reduceSub, Nat.reduceAdd, Nat.reduceLeDiff, Nat.reduceMul, Nat.zero_add, true_and, and_true, forall_const, Bool.false_eq_true, false_implies, implies_true, reduceCtorEq, forall_eq', Bool.true_eq_false, if_true, if_false, reduceIte, ite_true, ite_false, Bool.not_true, Bool.not_false, true_implies, List.length_map]) Iff.rfl (own.zip line) none none
def kp (line : Row) (p : Nat) (own : Row) : Bool := match own[p]?.join, line[p]?.join with
  | some a, some t => (own.zip line).all (rcB a t)
  | _, _ => false
def lm (rows : List Row) (line : Row) (p : Nat) : Bool := match line[p]?.join with
  | none => true
  | some _ => !((rows.filter (kp line p)).isEmpty)
theorem fEq_ones {α : Type} (l : List α) {Q : AK} : fEq false (.v (.list (l.map fun _ => PyData.int 1))) (.v (.list [])) Q ↔ Q (.v (.bool l.isEmpty)) := by
  unfold fEq
  have h : EqOk2 (.list (l.map fun _ => PyData.int 1)) (.list []) := by
    refine .inl ⟨⟨by simp only [noDict]; exact noDicts_map fun _ => rfl, ?_⟩, ⟨rfl, rfl⟩⟩
    have := shapedI (l.map fun _ => (1 : Int))
    rw [List.map_map] at this
    exact this
  simp only [h, true_and, Bool.false_eq_true, if_false, PyData.eqv]
  cases l <;> exact Iff.rfl
theorem lmade_loop {rows : List Row} {line : Row} {D : AEnds} {N : Bool → Prop} (hl : ∀ r ∈ rows, r.length = line.length) (hk : rows.length ≤ 1000) (hn : ∀ o2 o3, D.nx [some (.dat (rowsD rows)), some (.dat (rowD line)), o2, o3] ↔ N true) (hr : D.rt (.bool false) ↔ N false) : ∀ (l : List Nat) (o2 o3 : Option AV), (∀ p ∈ l, p < line.length) →
    (forGo (agName 2) S_law_is_made_1 D (l.map fun k : Nat => .int (0 + (k : Nat))) [some (.dat (rowsD rows)), some (.dat (rowD line)), o2, o3] ↔ N (l.all (lm rows line)))
  | [], o2, o3, _ => by simp only [forGo, List.map_nil, List.all_nil, hn]
  | p :: r, o2, o3, hp => by
    have ih := fun o2 o3 => lmade_loop hl hk hn hr r o2 o3 fun q hq => hp q (List.mem_cons_of_mem _ hq)
    have hp1 := hp p (List.mem_cons_self ..)
    rw [List.map_cons, Int.zero_add]
    unfold forGo
    generalize forGo (agName 2) S_law_is_made_1 D (r.map fun k : Nat => .int (0 + (k : Nat))) = F at ih ⊢
    rw [List.all_cons]
    obtain ⟨o, ho⟩ : ∃ o, line[p]? = some o := ⟨line[p], List.getElem?_eq_getElem hp1⟩
    simp only [S_law_is_made_1, aFun, startA, toAV, sNext, sSeq, sRet, sIf, sSet, sAsg, sOwn, sLst, sDrop, sFor, sFrz, sApp, sSetIx, sRaise0, sBrk, sCont, sTry, tryX, noEx, sPar2, sPar3, aVal, aVar, aBin, aTst, aTstB, onTru, onV, truthD, aUn, aNil, aCons, aStar, itemsA, datas, aTup, aLst, aOf, aAndT, aOrT, aNotT, aAndV, aOrV, aNotV, aIf, aChain, aCB, onSeq, fLen, fTuple, fList, fInt, fAbs, fAdd, fI, fI0, fSub, fLt, fLe, fGt, fGe, fIs, fNeg, aSl, aRev, aNoPart, aPart, aLc, aYes, aFz, aFzT, frzA, frzV, aSeq, aRng1, aRng2, aZip, aEnumT, aEnumL, agName, agNil, agCons, agTup, wipeA, aCall, aCallK, flatD, List.map_cons, List.map_nil, List.length_cons, List.length_nil, List.replicate, List.getElem?_cons_zero, List.getElem?_cons_succ, List.set_cons_zero, List.set_cons_succ, List.cons_append, List.nil_append, Option.map_some, Option.map_none, Nat.sub_self, Nat.reduceSub, Nat.reduceAdd, Nat.reduceLeDiff, Nat.reduceMul, Nat.zero_add, true_and, and_true, forall_const, Bool.false_eq_true, false_implies, implies_true, reduceCtorEq, forall_eq', Bool.true_eq_false, if_true, if_false, reduceIte, ite_true, ite_false, Bool.not_true, Bool.not_false, true_implies, List.length_map]
    rw [fIx_tup ho]
    cases o with
    | none =>
      have e : lm rows line p = true := by unfold lm; rw [ho]; rfl
      rw [e]
      simpa only [aFun, startA, toAV, sNext, sSeq, sRet, sIf, sSet, sAsg, sOwn, sLst, sDrop, sFor, sFrz, sApp, sSetIx, sRaise0, sBrk, sCont, sTry, tryX, noEx, sPar2, sPar3, aVal, aVar, aBin, aTst, aTstB, onTru, onV, truthD, aUn, aNil, aCons, aStar, itemsA, datas, aTup, aLst, aOf, aAndT, aOrT, aNotT, aAndV, aOrV, aNotV, aIf, aChain, aCB, onSeq, fLen, fTuple, fList, fInt, fAbs, fAdd, fI, fI0, fSub, fLt, fLe, fGt, fGe, fIs, fNeg, aSl, aRev, aNoPart, aPart, aLc, aYes, aFz, aFzT, frzA, frzV, aSeq, aRng1, aRng2, aZip, aEnumT, aEnumL, agName, agNil, agCons, agTup, wipeA, aCall, aCallK, flatD, List.map_cons, List.map_nil, List.length_cons, List.length_nil, List.replicate, List.getElem?_cons_zero, List.getElem?_cons_succ, List.set_cons_zero, List.set_cons_succ, List.cons_append, List.nil_append, Option.map_some, Option.map_none, Nat.sub_self, Nat.reduceSub, Nat.reduceAdd, Nat.reduceLeDiff, Nat.reduceMul, Nat.zero_add, true_and, and_true, forall_const, Bool.false_eq_true, false_implies, implies_true, reduceCtorEq, forall_eq', Bool.true_eq_false, if_true, if_false, reduceIte, ite_true, ite_false, Bool.not_true, Bool.not_false, true_implies, List.length_map, pdn, isNone, Bool.true_and] using ih _ _
    | some t =>
      simp only [aFun, startA, toAV, sNext, sSeq, sRet, sIf, sSet, sAsg, sOwn, sLst, sDrop, sFor, sFrz, sApp, sSetIx, sRaise0, sBrk, sCont, sTry, tryX, noEx, sPar2, sPar3, aVal, aVar, aBin, aTst, aTstB, onTru, onV, truthD, aUn, aNil, aCons, aStar, itemsA, datas, aTup, aLst, aOf, aAndT, aOrT, aNotT, aAndV, aOrV, aNotV, aIf, aChain, aCB, onSeq, fLen, fTuple, fList, fInt, fAbs, fAdd, fI, fI0, fSub, fLt, fLe, fGt, fGe, fIs, fNeg, aSl, aRev, aNoPart, aPart, aLc, aYes, aFz, aFzT, frzA, frzV, aSeq, aRng1, aRng2, aZip, aEnumT, aEnumL, agName, agNil, agCons, agTup, wipeA, aCall, aCallK, flatD, List.map_cons, List.map_nil, List.length_cons, List.length_nil, List.replicate, List.getElem?_cons_zero, List.getElem?_cons_succ, List.set_cons_zero, List.set_cons_succ, List.cons_append, List.nil_append, Option.map_some, Option.map_none, Nat.sub_self, Nat.reduceSub, Nat.reduceAdd, Nat.reduceLeDiff, Nat.reduceMul, Nat.zero_add, true_and, and_true, forall_const, Bool.false_eq_true, false_implies, implies_true, reduceCtorEq, forall_eq', Bool.true_eq_false, if_true, if_false, reduceIte, ite_true, ite_false, Bool.not_true, Bool.not_false, true_implies, List.length_map, pds, isNone]
      rw [lcGo_keep (kp line p) (fun _ : Row => .int 1)]
      · have hz : rows.length ≤ 2000000 := by omega
        simp only [hz, true_and, List.nil_append]
        rw [fEq_ones]
        have e : lm rows line p = !((rows.filter (kp line p)).isEmpty) := by unfold lm; rw [ho]; rfl
        rw [e]
        cases h : (rows.filter (kp line p)).isEmpty
        · simp only [aFun, startA, toAV, sNext, sSeq, sRet, sIf, sSet, sAsg, sOwn, sLst, sDrop, sFor, sFrz, sApp, sSetIx, sRaise0, sBrk, sCont, sTry, tryX, noEx, sPar2, sPar3, aVal, aVar, aBin, aTst, aTstB, onTru, onV, truthD, aUn, aNil, aCons, aStar, itemsA, datas, aTup, aLst, aOf, aAndT, aOrT, aNotT, aAndV, aOrV, aNotV, aIf, aChain, aCB, onSeq, fLen, fTuple, fList, fInt, fAbs, fAdd, fI, fI0, fSub, fLt, fLe, fGt, fGe, fIs, fNeg, aSl, aRev, aNoPart, aPart, aLc, aYes, aFz, aFzT, frzA, frzV, aSeq, aRng1, aRng2, aZip, aEnumT, aEnumL, agName, agNil, agCons, agTup, wipeA, aCall, aCallK, flatD, List.map_cons, List.map_nil, List.length_cons, List.length_nil, List.replicate, List.getElem?_cons_zero, List.getElem?_cons_succ, List.set_cons_zero, List.set_cons_succ, List.cons_append, List.nil_append, Option.map_some, Option.map_none, Nat.sub_self, Nat.reduceSub, Nat.reduceAdd, Nat.reduceLeDiff, Nat.reduceMul, Nat.zero_add, true_and, and_true, forall_const, Bool.false_eq_true, false_implies, implies_true, reduceCtorEq, forall_eq', Bool.true_eq_false, if_true, if_false, reduceIte, ite_true, ite_false, Bool.not_true, Bool.not_false, true_implies, List.length_map, Bool.true_and]
          exact ih _ _
        · simp only [aFun, startA, toAV, sNext, sSeq, sRet, sIf, sSet, sAsg, sOwn, sLst, sDrop, sFor, sFrz, sApp, sSetIx, sRaise0, sBrk, sCont, sTry, tryX, noEx, sPar2, sPar3, aVal, aVar, aBin, aTst, aTstB, onTru, onV, truthD, aUn, aNil, aCons, aStar, itemsA, datas, aTup, aLst, aOf, aAndT, aOrT, aNotT, aAndV, aOrV, aNotV, aIf, aChain, aCB, onSeq, fLen, fTuple, fList, fInt, fAbs, fAdd, fI, fI0, fSub, fLt, fLe, fGt, fGe, fIs, fNeg, aSl, aRev, aNoPart, aPart, aLc, aYes, aFz, aFzT, frzA, frzV, aSeq, aRng1, aRng2, aZip, aEnumT, aEnumL, agName, agNil, agCons, agTup, wipeA, aCall, aCallK, flatD, List.map_cons, List.map_nil, List.length_cons, List.length_nil, List.replicate, List.getElem?_cons_zero, List.getElem?_cons_succ, List.set_cons_zero, List.set_cons_succ, List.cons_append, List.nil_append, Option.map_some, Option.map_none, Nat.sub_self, Nat.reduceSub, Nat.reduceAdd, Nat.reduceLeDiff, Nat.reduceMul, Nat.zero_add, true_and, and_true, forall_const, Bool.false_eq_true, false_implies, implies_true, reduceCtorEq, forall_eq', Bool.true_eq_false, if_true, if_false, reduceIte, ite_true, ite_false, Bool.not_true, Bool.not_false, true_implies, List.length_map, Bool.false_and]
          exact hr
      · intro own hown R
        have hp2 : p < own.length := by rw [hl own hown]; exact hp1
        obtain ⟨o2, ho2⟩ : ∃ o, own[p]? = some o := ⟨own[p], List.getElem?_eq_getElem hp2⟩
        simp only [aFun, startA, toAV, sNext, sSeq, sRet, sIf, sSet, sAsg, sOwn, sLst, sDrop, sFor, sFrz, sApp, sSetIx, sRaise0, sBrk, sCont, sTry, tryX, noEx, sPar2, sPar3, aVal, aVar, aBin, aTst, aTstB, onTru, onV, truthD, aUn, aNil, aCons, aStar, itemsA, datas, aTup, aLst, aOf, aAndT, aOrT, aNotT, aAndV, aOrV, aNotV, aIf, aChain, aCB, onSeq, fLen, fTuple, fList, fInt, fAbs, fAdd, fI, fI0, fSub, fLt, fLe, fGt, fGe, fIs, fNeg, aSl, aRev, aNoPart, aPart, aLc, aYes, aFz, aFzT, frzA, frzV, aSeq, aRng1, aRng2, aZip, aEnumT, aEnumL, agName, agNil, agCons, agTup, wipeA, aCall, aCallK, flatD, List.map_cons, List.map_nil, List.length_cons, List.length_nil, List.replicate, List.getElem?_cons_zero, List.getElem?_cons_succ, List.set_cons_zero, List.set_cons_succ, List.cons_append, List.nil_append, Option.map_some, Option.map_none, Nat.sub_self, Nat.reduceSub, Nat.reduceAdd, Nat.reduceLeDiff, Nat.reduceMul, Nat.zero_add, true_and, and_true, forall_const, Bool.false_eq_true, false_implies, implies_true, reduceCtorEq, forall_eq', Bool.true_eq_false, if_true, if_false, reduceIte, ite_true, ite_false, Bool.not_true, Bool.not_false, true_implies, List.length_map]
        rw [fIx_tup ho2]
        unfold kp
        rw [ho2, ho]
        cases o2 with
        | none => simp [aFun, startA, toAV, sNext, sSeq, sRet, sIf, sSet, sAsg, sOwn, sLst, sDrop, sFor, sFrz, sApp, sSetIx, sRaise0, sBrk, sCont, sTry, tryX, noEx, sPar2, sPar3, aVal, aVar, aBin, aTst, aTstB, onTru, onV, truthD, aUn, aNil, aCons, aStar, itemsA, datas, aTup, aLst, aOf, aAndT, aOrT, aNotT, aAndV, aOrV, aNotV, aIf, aChain, aCB, onSeq, fLen, fTuple, fList, fInt, fAbs, fAdd, fI, fI0, fSub, fLt, fLe, fGt, fGe, fIs, fNeg, aSl, aRev, aNoPart, aPart, aLc, aYes, aFz, aFzT, frzA, frzV, aSeq, aRng1, aRng2, aZip, aEnumT, aEnumL, agName, agNil, agCons, agTup, wipeA, aCall, aCallK, flatD, pdn, isNone]
        | some a =>
          simp only [aFun, startA, toAV, sNext, sSeq, sRet, sIf, sSet, sAsg, sOwn, sLst, sDrop, sFor, sFrz, sApp, sSetIx, sRaise0, sBrk, sCont, sTry, tryX, noEx, sPar2, sPar3, aVal, aVar, aBin, aTst, aTstB, onTru, onV, truthD, aUn, aNil, aCons, aStar, itemsA, datas, aTup, aLst, aOf, aAndT, aOrT, aNotT, aAndV, aOrV, aNotV, aIf, aChain, aCB, onSeq, fLen, fTuple, fList, fInt, fAbs, fAdd, fI, fI0, fSub, fLt, fLe, fGt, fGe, fIs, fNeg, aSl, aRev, aNoPart, aPart, aLc, aYes, aFz, aFzT, frzA, frzV, aSeq, aRng1, aRng2, aZip, aEnumT, aEnumL, agName, agNil, agCons, agTup, wipeA, aCall, aCallK, flatD, List.map_cons, List.map_nil, List.length_cons, List.length_nil, List.replicate, List.getElem?_cons_zero, List.getElem?_cons_succ, List.set_cons_zero, List.set_cons_succ, List.cons_append, List.nil_append, Option.map_some, Option.map_none, Nat.sub_self, Nat.reduceSub, Nat.reduceAdd, Nat.reduceLeDiff, Nat.reduceMul, Nat.zero_add, true_and, and_true, forall_const, Bool.false_eq_true, false_implies, implies_true, reduceCtorEq, forall_eq', Bool.true_eq_false, if_true, if_false, reduceIte, ite_true, ite_false, Bool.not_true, Bool.not_false, true_implies, List.length_map, pds, isNone]
          rw [up_iff (sp_reaches ho2 ho)]
          cases h : (own.zip line).all (rcB a t) <;> simp [aFun, startA, toAV, sNext, sSeq, sRet, sIf, sSet, sAsg, sOwn, sLst, sDrop, sFor, sFrz, sApp, sSetIx, sRaise0, sBrk, sCont, sTry, tryX, noEx, sPar2, sPar3, aVal, aVar, aBin, aTst, aTstB, onTru, onV, truthD, aUn, aNil, aCons, aStar, itemsA, datas, aTup, aLst, aOf, aAndT, aOrT, aNotT, aAndV, aOrV, aNotV, aIf, aChain, aCB, onSeq, fLen, fTuple, fList, fInt, fAbs, fAdd, fI, fI0, fSub, fLt, fLe, fGt, fGe, fIs, fNeg, aSl, aRev, aNoPart, aPart, aLc, aYes, aFz, aFzT, frzA, frzV, aSeq, aRng1, aRng2, aZip, aEnumT, aEnumL, agName, agNil, agCons, agTup, wipeA, aCall, aCallK, flatD, h]
theorem kp_iff {own line : Row} (hl : own.length = line.length) {p : Nat} : kp line p own = true ↔ Rch own line p := by
  unfold kp
  constructor
  · intro h
    cases e1 : own[p]? with
    | none => rw [e1] at h; simp at h
    | some o1 =>
      cases e2 : line[p]? with
      | none => rw [e1, e2] at h; cases o1 <;> simp at h
      | some o2 =>
        rw [e1, e2] at h
        cases o1 with
        | none => simp at h
        | some a =>
          cases o2 with
          | none => simp at h
          | some t =>
            simp only [Option.join_some, List.all_eq_true] at h
            refine ⟨a, t, e1, e2, fun q l hq => ?_⟩
            have hq2 : q < line.length := by rw [← hl]; exact (List.getElem?_eq_some_iff.mp hq).1
            have := h (some l, line[q]) ((mem_zip_iff hl).mpr ⟨q, hq, List.getElem?_eq_getElem hq2⟩)
            cases e : line[q] with
            | none => rw [e] at this; simp [rcB] at this
            | some u =>
              rw [e] at this
              simp [rcB] at this
              exact ⟨u, by rw [List.getElem?_eq_getElem hq2, e], this⟩
  · rintro ⟨a, t, h1, h2, h3⟩
    rw [h1, h2]
    simp only [Option.join_some, List.all_eq_true]
    rintro ⟨x, y⟩ hm
    obtain ⟨q, k1, k2⟩ := (mem_zip_iff hl).mp hm
    cases x with
    | none => rfl
    | some x =>
      obtain ⟨t', k3, k4⟩ := h3 q x k1
      rw [k2] at k3
      cases k3
      simpa [rcB] using k4
theorem sp_lmade (rows : List Row) (line : Row) (hl : ∀ r ∈ rows, r.length = line.length) (hk : rows.length ≤ 1000) (hw : line.length ≤ 1000) (Q : PyData → Prop) (E : AXK) : A_law_is_made [.v (rowsD rows), .v (rowD line)] Q E ↔ Q (.bool (mb rows line)) := by
  have hg : RgB (line.length : Nat) := ⟨by omega, by omega⟩
  simp only [A_law_is_made, S_law_is_made, aFun, startA, toAV, sNext, sSeq, sRet, sIf, sSet, sAsg, sOwn, sLst, sDrop, sFor, sFrz, sApp, sSetIx, sRaise0, sBrk, sCont, sTry, tryX, noEx, sPar2, sPar3, aVal, aVar, aBin, aTst, aTstB, onTru, onV, truthD, aUn, aNil, aCons, aStar, itemsA, datas, aTup, aLst, aOf, aAndT, aOrT, aNotT, aAndV, aOrV, aNotV, aIf, aChain, aCB, onSeq, fLen, fTuple, fList, fInt, fAbs, fAdd, fI, fI0, fSub, fLt, fLe, fGt, fGe, fIs, fNeg, aSl, aRev, aNoPart, aPart, aLc, aYes, aFz, aFzT, frzA, frzV, aSeq, aRng1, aRng2, aZip, aEnumT, aEnumL, agName, agNil, agCons, agTup, wipeA, aCall, aCallK, flatD, List.map_cons, List.map_nil, List.length_cons, List.length_nil, List.replicate, List.getElem?_cons_zero, List.getElem?_cons_succ, List.set_cons_zero, List.set_cons_succ, List.cons_append, List.nil_append, Option.map_some, Option.map_none, Nat.sub_self, Nat.reduceSub, Nat.reduceAdd, Nat.reduceLeDiff, Nat.reduceMul, Nat.zero_add, true_and, and_true, forall_const, Bool.false_eq_true, false_implies, implies_true, reduceCtorEq, forall_eq', Bool.true_eq_false, if_true, if_false, reduceIte, ite_true, ite_false, Bool.not_true, Bool.not_false, true_implies, List.length_map, hg, rangeD, Int.toNat_natCast]
  rw [lmade_loop hl hk (N := fun b => Q (.bool b)) (fun o2 o3 => by simp only [aFun, startA, toAV, sNext, sSeq, sRet, sIf, sSet, sAsg, sOwn, sLst, sDrop, sFor, sFrz, sApp, sSetIx, sRaise0, sBrk, sCont, sTry, tryX, noEx, sPar2, sPar3, aVal, aVar, aBin, aTst, aTstB, onTru, onV, truthD, aUn, aNil, aCons, aStar, itemsA, datas, aTup, aLst, aOf, aAndT, aOrT, aNotT, aAndV, aOrV, aNotV, aIf, aChain, aCB, onSeq, fLen, fTuple, fList, fInt, fAbs, fAdd, fI, fI0, fSub, fLt, fLe, fGt, fGe, fIs, fNeg, aSl, aRev, aNoPart, aPart, aLc, aYes, aFz, aFzT, frzA, frzV, aSeq, aRng1, aRng2, aZip, aEnumT, aEnumL, agName, agNil, agCons, agTup, wipeA, aCall, aCallK, flatD, List.map_cons, List.map_nil, List.length_cons, List.length_nil, List.replicate, List.getElem?_cons_zero, List.getElem?_cons_succ, List.set_cons_zero, List.set_cons_succ, List.cons_append, List.nil_append, Option.map_some, Option.map_none, Nat.sub_self, Nat.reduceSub, Nat.reduceAdd, Nat.reduceLeDiff, Nat.reduceMul, Nat.zero_add, true_and, and_true, forall_const, Bool.false_eq_true, false_implies, implies_true, reduceCtorEq, forall_eq', Bool.true_eq_false, if_true, if_false, reduceIte, ite_true, ite_false, Bool.not_true, Bool.not_false, true_implies, List.length_map]) Iff.rfl (List.range line.length) none none (fun p hp => List.mem_range.mp hp)]
  have : (List.range line.length).all (lm rows line) = mb rows line := by
    rw [Bool.eq_iff_iff, mb_iff, List.all_eq_true]
    constructor
    · intro h p t ht
      have hp : p < line.length := (List.getElem?_eq_some_iff.mp ht).1
      have := h p (List.mem_range.mpr hp)
      unfold lm at this
      rw [ht] at this
      cases e : rows.filter (kp line p) with
      | nil => rw [e] at this; simp at this
      | cons r rs =>
        have hm : r ∈ rows.filter (kp line p) := by rw [e]; exact List.mem_cons_self ..
        obtain ⟨h1, h2⟩ := List.mem_filter.mp hm
        exact ⟨r, h1, (kp_iff (hl r h1)).mp h2⟩
    · intro h p hp
      unfold lm
      cases e : line[p]?.join with
      | none => rfl
      | some t =>
        have ht : line[p]? = some (some t) := by
          cases e2 : line[p]? with
          | none => rw [e2] at e; cases e
          | some o => rw [e2] at e; rw [show o = some t from e]
        obtain ⟨r, h1, h2⟩ := h p t ht
        have hm : r ∈ rows.filter (kp line p) := List.mem_filter.mpr ⟨h1, (kp_iff (hl r h1)).mpr h2⟩
        cases e3 : rows.filter (kp line p) with
        | nil => rw [e3] at hm; cases hm
        | cons a b => rfl
  rw [this]
end K8

namespace K8
open PySem L2 RW RZ PySem.RW U AL
theorem up_take {size : Int} {Q : PyData → Prop} {E : AXK} (h0 : 0 < size) (h1 : size < 1073741824) (k : ∀ r, 0 ≤ r → r < size → Q (.int r)) : AFun.up A_law_take [.urn, .v (.int size)] Q E := up_of ⟨size, rfl, h0, h1, k⟩
theorem sp_one {qs : List PyData} {Q : PyData → Prop} {E : AXK} (h0 : 0 < qs.length) (h1 : qs.length < 1000) (k : ∀ q ∈ qs, Q q) : A_law_one [.urn, .v (.list qs)] Q E := by
  simp only [A_law_one, S_law_one, aFun, startA, toAV, sNext, sSeq, sRet, sIf, sSet, sAsg, sOwn, sLst, sDrop, sFor, sFrz, sApp, sSetIx, sRaise0, sBrk, sCont, sTry, tryX, noEx, sPar2, sPar3, aVal, aVar, aBin, aTst, aTstB, onTru, onV, truthD, aUn, aNil, aCons, aStar, itemsA, datas, aTup, aLst, aOf, aAndT, aOrT, aNotT, aAndV, aOrV, aNotV, aIf, aChain, aCB, onSeq, fLen, fTuple, fList, fInt, fAbs, fAdd, fI, fI0, fSub, fLt, fLe, fGt, fGe, fIs, fNeg, aSl, aRev, aNoPart, aPart, aLc, aYes, aFz, aFzT, frzA, frzV, aSeq, aRng1, aRng2, aZip, aEnumT, aEnumL, agName, agNil, agCons, agTup, wipeA, aCall, aCallK, flatD, List.map_cons, List.map_nil, List.length_cons, List.length_nil, List.replicate, List.getElem?_cons_zero, List.getElem?_cons_succ, List.set_cons_zero, List.set_cons_succ, List.cons_append, List.nil_append, Option.map_some, Option.map_none, Nat.sub_self, Nat.reduceSub, Nat.reduceAdd, Nat.reduceLeDiff, Nat.reduceMul, Nat.zero_add, true_and, and_true, forall_const, Bool.false_eq_true, false_implies, implies_true, reduceCtorEq, forall_eq', Bool.true_eq_false, if_true, if_false, reduceIte, ite_true, ite_false, Bool.not_true, Bool.not_false, true_implies, List.length_map]
  refine up_take (by omega) (by omega) fun r r0 r1 => ?_
  have hr : r.toNat < qs.length := by omega
  refine ⟨qs[r.toNat], ?_, k _ (List.getElem_mem hr)⟩
  have := atI_nat (List.getElem?_eq_getElem hr)
  rwa [show ((r.toNat : Nat) : Int) = r by omega] at this
theorem sp_oneT {qs : List PyData} {Q : PyData → Prop} {E : AXK} (h0 : 0 < qs.length) (h1 : qs.length < 1000) (k : ∀ q ∈ qs, Q q) : A_law_one [.urn, .v (.tuple qs)] Q E := by
  simp only [A_law_one, S_law_one, aFun, startA, toAV, sNext, sSeq, sRet, sIf, sSet, sAsg, sOwn, sLst, sDrop, sFor, sFrz, sApp, sSetIx, sRaise0, sBrk, sCont, sTry, tryX, noEx, sPar2, sPar3, aVal, aVar, aBin, aTst, aTstB, onTru, onV, truthD, aUn, aNil, aCons, aStar, itemsA, datas, aTup, aLst, aOf, aAndT, aOrT, aNotT, aAndV, aOrV, aNotV, aIf, aChain, aCB, onSeq, fLen, fTuple, fList, fInt, fAbs, fAdd, fI, fI0, fSub, fLt, fLe, fGt, fGe, fIs, fNeg, aSl, aRev, aNoPart, aPart, aLc, aYes, aFz, aFzT, frzA, frzV, aSeq, aRng1, aRng2, aZip, aEnumT, aEnumL, agName, agNil, agCons, agTup, wipeA, aCall, aCallK, flatD, List.map_cons, List.map_nil, List.length_cons, List.length_nil, List.replicate, List.getElem?_cons_zero, List.getElem?_cons_succ, List.set_cons_zero, List.set_cons_succ, List.cons_append, List.nil_append, Option.map_some, Option.map_none, Nat.sub_self, Nat.reduceSub, Nat.reduceAdd, Nat.reduceLeDiff, Nat.reduceMul, Nat.zero_add, true_and, and_true, forall_const, Bool.false_eq_true, false_implies, implies_true, reduceCtorEq, forall_eq', Bool.true_eq_false, if_true, if_false, reduceIte, ite_true, ite_false, Bool.not_true, Bool.not_false, true_implies, List.length_map]
  refine up_take (by omega) (by omega) fun r r0 r1 => ?_
  have hr : r.toNat < qs.length := by omega
  refine ⟨qs[r.toNat], ?_, k _ (List.getElem_mem hr)⟩
  have := atI_nat (List.getElem?_eq_getElem hr)
  rwa [show ((r.toNat : Nat) : Int) = r by omega] at this
/-- a world -/
structure Wd (a b : Int) : Prop where
  a0 : 0 ≤ a
  a1 : a ≤ 1000
  b0 : b.natAbs ≤ BN
abbrev wdD (a b : Int) : PyData := .list [.int a, .int b]
theorem sp_whole {a b : Int} (w : Wd a b) {Q : PyData → Prop} {E : AXK} (k : ∀ i : Int, i.natAbs ≤ 2 * BN → Q (.int i)) : A_law_whole [.urn, .v (wdD a b)] Q E := by
  have hB := BN_pos
  obtain ⟨a0, a1, b0⟩ := w
  simp only [A_law_whole, S_law_whole, aFun, startA, toAV, sNext, sSeq, sRet, sIf, sSet, sAsg, sOwn, sLst, sDrop, sFor, sFrz, sApp, sSetIx, sRaise0, sBrk, sCont, sTry, tryX, noEx, sPar2, sPar3, aVal, aVar, aBin, aTst, aTstB, onTru, onV, truthD, aUn, aNil, aCons, aStar, itemsA, datas, aTup, aLst, aOf, aAndT, aOrT, aNotT, aAndV, aOrV, aNotV, aIf, aChain, aCB, onSeq, fLen, fTuple, fList, fInt, fAbs, fAdd, fI, fI0, fSub, fLt, fLe, fGt, fGe, fIs, fNeg, aSl, aRev, aNoPart, aPart, aLc, aYes, aFz, aFzT, frzA, frzV, aSeq, aRng1, aRng2, aZip, aEnumT, aEnumL, agName, agNil, agCons, agTup, wipeA, aCall, aCallK, flatD, List.map_cons, List.map_nil, List.length_cons, List.length_nil, List.replicate, List.getElem?_cons_zero, List.getElem?_cons_succ, List.set_cons_zero, List.set_cons_succ, List.cons_append, List.nil_append, Option.map_some, Option.map_none, Nat.sub_self, Nat.reduceSub, Nat.reduceAdd, Nat.reduceLeDiff, Nat.reduceMul, Nat.zero_add, true_and, and_true, forall_const, Bool.false_eq_true, false_implies, implies_true, reduceCtorEq, forall_eq', Bool.true_eq_false, if_true, if_false, reduceIte, ite_true, ite_false, Bool.not_true, Bool.not_false, true_implies, List.length_map]
  rw [fIxl0]
  simp only [fMul, aFun, startA, toAV, sNext, sSeq, sRet, sIf, sSet, sAsg, sOwn, sLst, sDrop, sFor, sFrz, sApp, sSetIx, sRaise0, sBrk, sCont, sTry, tryX, noEx, sPar2, sPar3, aVal, aVar, aBin, aTst, aTstB, onTru, onV, truthD, aUn, aNil, aCons, aStar, itemsA, datas, aTup, aLst, aOf, aAndT, aOrT, aNotT, aAndV, aOrV, aNotV, aIf, aChain, aCB, onSeq, fLen, fTuple, fList, fInt, fAbs, fAdd, fI, fI0, fSub, fLt, fLe, fGt, fGe, fIs, fNeg, aSl, aRev, aNoPart, aPart, aLc, aYes, aFz, aFzT, frzA, frzV, aSeq, aRng1, aRng2, aZip, aEnumT, aEnumL, agName, agNil, agCons, agTup, wipeA, aCall, aCallK, flatD, List.map_cons, List.map_nil, List.length_cons, List.length_nil, List.replicate, List.getElem?_cons_zero, List.getElem?_cons_succ, List.set_cons_zero, List.set_cons_succ, List.cons_append, List.nil_append, Option.map_some, Option.map_none, Nat.sub_self, Nat.reduceSub, Nat.reduceAdd, Nat.reduceLeDiff, Nat.reduceMul, Nat.zero_add, true_and, and_true, forall_const, Bool.false_eq_true, false_implies, implies_true, reduceCtorEq, forall_eq', Bool.true_eq_false, if_true, if_false, reduceIte, ite_true, ite_false, Bool.not_true, Bool.not_false, true_implies, List.length_map]
  refine ⟨bigB_bn (by show (2 : Int).natAbs ≤ _; omega), bigB_bn (by omega), ?_⟩
  refine up_take (by omega) (by omega) fun r r0 r1 => ?_
  try simp only [aFun, startA, toAV, sNext, sSeq, sRet, sIf, sSet, sAsg, sOwn, sLst, sDrop, sFor, sFrz, sApp, sSetIx, sRaise0, sBrk, sCont, sTry, tryX, noEx, sPar2, sPar3, aVal, aVar, aBin, aTst, aTstB, onTru, onV, truthD, aUn, aNil, aCons, aStar, itemsA, datas, aTup, aLst, aOf, aAndT, aOrT, aNotT, aAndV, aOrV, aNotV, aIf, aChain, aCB, onSeq, fLen, fTuple, fList, fInt, fAbs, fAdd, fI, fI0, fSub, fLt, fLe, fGt, fGe, fIs, fNeg, aSl, aRev, aNoPart, aPart, aLc, aYes, aFz, aFzT, frzA, frzV, aSeq, aRng1, aRng2, aZip, aEnumT, aEnumL, agName, agNil, agCons, agTup, wipeA, aCall, aCallK, flatD, List.map_cons, List.map_nil, List.length_cons, List.length_nil, List.replicate, List.getElem?_cons_zero, List.getElem?_cons_succ, List.set_cons_zero, List.set_cons_succ, List.cons_append, List.nil_append, Option.map_some, Option.map_none, Nat.sub_self, Nat.reduceSub, Nat.reduceAdd, Nat.reduceLeDiff, Nat.reduceMul, Nat.zero_add, true_and, and_true, forall_const, Bool.false_eq_true, false_implies, implies_true, reduceCtorEq, forall_eq', Bool.true_eq_false, if_true, if_false, reduceIte, ite_true, ite_false, Bool.not_true, Bool.not_false, true_implies, List.length_map]
  rw [fIxl0]
  try simp only [aFun, startA, toAV, sNext, sSeq, sRet, sIf, sSet, sAsg, sOwn, sLst, sDrop, sFor, sFrz, sApp, sSetIx, sRaise0, sBrk, sCont, sTry, tryX, noEx, sPar2, sPar3, aVal, aVar, aBin, aTst, aTstB, onTru, onV, truthD, aUn, aNil, aCons, aStar, itemsA, datas, aTup, aLst, aOf, aAndT, aOrT, aNotT, aAndV, aOrV, aNotV, aIf, aChain, aCB, onSeq, fLen, fTuple, fList, fInt, fAbs, fAdd, fI, fI0, fSub, fLt, fLe, fGt, fGe, fIs, fNeg, aSl, aRev, aNoPart, aPart, aLc, aYes, aFz, aFzT, frzA, frzV, aSeq, aRng1, aRng2, aZip, aEnumT, aEnumL, agName, agNil, agCons, agTup, wipeA, aCall, aCallK, flatD, List.map_cons, List.map_nil, List.length_cons, List.length_nil, List.replicate, List.getElem?_cons_zero, List.getElem?_cons_succ, List.set_cons_zero, List.set_cons_succ, List.cons_append, List.nil_append, Option.map_some, Option.map_none, Nat.sub_self, Nat.reduceSub, Nat.reduceAdd, Nat.reduceLeDiff, Nat.reduceMul, Nat.zero_add, true_and, and_true, forall_const, Bool.false_eq_true, false_implies, implies_true, reduceCtorEq, forall_eq', Bool.true_eq_false, if_true, if_false, reduceIte, ite_true, ite_false, Bool.not_true, Bool.not_false, true_implies, List.length_map]
  rw [fIxl1]
  refine up_take (by omega) (by omega) fun s s0 s1 => ?_
  simp only [fMul, aFun, startA, toAV, sNext, sSeq, sRet, sIf, sSet, sAsg, sOwn, sLst, sDrop, sFor, sFrz, sApp, sSetIx, sRaise0, sBrk, sCont, sTry, tryX, noEx, sPar2, sPar3, aVal, aVar, aBin, aTst, aTstB, onTru, onV, truthD, aUn, aNil, aCons, aStar, itemsA, datas, aTup, aLst, aOf, aAndT, aOrT, aNotT, aAndV, aOrV, aNotV, aIf, aChain, aCB, onSeq, fLen, fTuple, fList, fInt, fAbs, fAdd, fI, fI0, fSub, fLt, fLe, fGt, fGe, fIs, fNeg, aSl, aRev, aNoPart, aPart, aLc, aYes, aFz, aFzT, frzA, frzV, aSeq, aRng1, aRng2, aZip, aEnumT, aEnumL, agName, agNil, agCons, agTup, wipeA, aCall, aCallK, flatD, List.map_cons, List.map_nil, List.length_cons, List.length_nil, List.replicate, List.getElem?_cons_zero, List.getElem?_cons_succ, List.set_cons_zero, List.set_cons_succ, List.cons_append, List.nil_append, Option.map_some, Option.map_none, Nat.sub_self, Nat.reduceSub, Nat.reduceAdd, Nat.reduceLeDiff, Nat.reduceMul, Nat.zero_add, true_and, and_true, forall_const, Bool.false_eq_true, false_implies, implies_true, reduceCtorEq, forall_eq', Bool.true_eq_false, if_true, if_false, reduceIte, ite_true, ite_false, Bool.not_true, Bool.not_false, true_implies, List.length_map]
  refine ⟨bigB_bn (by omega), bigB_bn (by omega), k _ ?_⟩
  have : s - 1 = -1 ∨ s - 1 = 0 ∨ s - 1 = 1 := by omega
  rcases this with h | h | h <;> rw [h] <;> omega
/-- a drawn row -/
structure Rw (n c : Nat) (xs : Row) : Prop where
  len : xs.length = n
  br : BR c xs
  int : ∃ (p : Nat) (a : Int), xs[p]? = some (some a)
theorem paired_pd {α : Type} {c : Nat} {xs : List α} {out : List PyData} (h : Paired (fun _ q => ∃ o : Option Int, q = pd o ∧ ∀ i, o = some i → i.natAbs ≤ c * BN) xs out) : ∃ r : Row, out = r.map pd ∧ r.length = xs.length ∧ BR c r := by
  induction h with
  | nil => exact ⟨[], rfl, rfl, fun i hi => by cases hi⟩
  | cons h1 h2 ih =>
    obtain ⟨o, rfl, ho⟩ := h1
    obtain ⟨r, rfl, hr, hb⟩ := ih
    refine ⟨o :: r, rfl, by simp [hr], fun i hi => ?_⟩
    rcases List.mem_cons.mp hi with h | h
    · exact ho i h.symm
    · exact hb i h
theorem no_int {xs : Row} (h : ¬ ∃ (p : Nat) (a : Int), xs[p]? = some (some a)) : xs = List.replicate xs.length none := by
  apply List.ext_getElem?
  intro p
  by_cases hp : p < xs.length
  · rw [List.getElem?_eq_getElem hp, List.getElem?_replicate, if_pos hp]
    cases e : xs[p] with
    | none => rfl
    | some a => exact absurd ⟨p, a, by rw [List.getElem?_eq_getElem hp, e]⟩ h
  · rw [List.getElem?_eq_none (by omega), List.getElem?_replicate, if_neg hp]
theorem rep_not {n : Nat} : ¬ ∃ (p : Nat) (a : Int), (List.replicate n (none : Option Int))[p]? = some (some a) := by
  rintro ⟨p, a, h⟩
  have := (List.mem_replicate.mp (List.mem_of_getElem? h)).2
  cases this
theorem flat_none (n : Nat) : (List.replicate n [PyData.none]).flatten = (List.replicate n (none : Option Int)).map pd := by
  rw [flat_rep]
  simp [pd]
theorem fEq_lrow {a b : Row} {Q : AK} : fEq false (.v (.list (a.map pd))) (.v (.list (b.map pd))) Q ↔ Q (.v (.bool (decide (a = b)))) := by
  unfold fEq
  have h : EqOk2 (.list (a.map pd)) (.list (b.map pd)) := .inl ⟨eqOk_lrow a, eqOk_lrow b⟩
  have e : PyData.eqv (.list (a.map pd)) (.list (b.map pd)) = decide (a = b) := eqvAll_pd a b
  simp only [h, true_and, e, Bool.false_eq_true, if_false]
theorem br_set {c : Nat} {xs : Row} {p : Nat} {i : Int} (h : BR c xs) (hi : i.natAbs ≤ c * BN) : BR c (xs.set p (some i)) := fun j hj => by
  rcases List.mem_or_eq_of_mem_set hj with h1 | h1
  · exact h j h1
  · cases h1; exact hi
theorem sp_row_of {a b : Int} {n : Nat} (w : Wd a b) (n0 : 1 ≤ n) (n1 : n ≤ 4) {Q : PyData → Prop} {E : AXK} (k : ∀ xs, Rw n 2 xs → Q (rowD xs)) : A_law_row_of [.urn, .v (.int (n : Nat)), .v (wdD a b)] Q E := by
  have hg : RgB (n : Nat) := ⟨by omega, by omega⟩
  simp only [A_law_row_of, S_law_row_of, aFun, startA, toAV, sNext, sSeq, sRet, sIf, sSet, sAsg, sOwn, sLst, sDrop, sFor, sFrz, sApp, sSetIx, sRaise0, sBrk, sCont, sTry, tryX, noEx, sPar2, sPar3, aVal, aVar, aBin, aTst, aTstB, onTru, onV, truthD, aUn, aNil, aCons, aStar, itemsA, datas, aTup, aLst, aOf, aAndT, aOrT, aNotT, aAndV, aOrV, aNotV, aIf, aChain, aCB, onSeq, fLen, fTuple, fList, fInt, fAbs, fAdd, fI, fI0, fSub, fLt, fLe, fGt, fGe, fIs, fNeg, aSl, aRev, aNoPart, aPart, aLc, aYes, aFz, aFzT, frzA, frzV, aSeq, aRng1, aRng2, aZip, aEnumT, aEnumL, agName, agNil, agCons, agTup, wipeA, aCall, aCallK, flatD, List.map_cons, List.map_nil, List.length_cons, List.length_nil, List.replicate, List.getElem?_cons_zero, List.getElem?_cons_succ, List.set_cons_zero, List.set_cons_succ, List.cons_append, List.nil_append, Option.map_some, Option.map_none, Nat.sub_self, Nat.reduceSub, Nat.reduceAdd, Nat.reduceLeDiff, Nat.reduceMul, Nat.zero_add, true_and, and_true, forall_const, Bool.false_eq_true, false_implies, implies_true, reduceCtorEq, forall_eq', Bool.true_eq_false, if_true, if_false, reduceIte, ite_true, ite_false, Bool.not_true, Bool.not_false, true_implies, List.length_map]
  refine up_of (sp_one (by simp) (by simp) fun q hq => ?_)
  obtain ⟨s, rfl, s0, s1⟩ : ∃ s : Int, q = .int s ∧ 0 < s ∧ s < 100 := by
    simp only [List.mem_cons, List.mem_nil_iff, or_false] at hq
    rcases hq with rfl | rfl | rfl
    · exact ⟨2, rfl, by omega, by omega⟩
    · exact ⟨4, rfl, by omega, by omega⟩
    · exact ⟨30, rfl, by omega, by omega⟩
  simp only [aFun, startA, toAV, sNext, sSeq, sRet, sIf, sSet, sAsg, sOwn, sLst, sDrop, sFor, sFrz, sApp, sSetIx, sRaise0, sBrk, sCont, sTry, tryX, noEx, sPar2, sPar3, aVal, aVar, aBin, aTst, aTstB, onTru, onV, truthD, aUn, aNil, aCons, aStar, itemsA, datas, aTup, aLst, aOf, aAndT, aOrT, aNotT, aAndV, aOrV, aNotV, aIf, aChain, aCB, onSeq, fLen, fTuple, fList, fInt, fAbs, fAdd, fI, fI0, fSub, fLt, fLe, fGt, fGe, fIs, fNeg, aSl, aRev, aNoPart, aPart, aLc, aYes, aFz, aFzT, frzA, frzV, aSeq, aRng1, aRng2, aZip, aEnumT, aEnumL, agName, agNil, agCons, agTup, wipeA, aCall, aCallK, flatD, List.map_cons, List.map_nil, List.length_cons, List.length_nil, List.replicate, List.getElem?_cons_zero, List.getElem?_cons_succ, List.set_cons_zero, List.set_cons_succ, List.cons_append, List.nil_append, Option.map_some, Option.map_none, Nat.sub_self, Nat.reduceSub, Nat.reduceAdd, Nat.reduceLeDiff, Nat.reduceMul, Nat.zero_add, true_and, and_true, forall_const, Bool.false_eq_true, false_implies, implies_true, reduceCtorEq, forall_eq', Bool.true_eq_false, if_true, if_false, reduceIte, ite_true, ite_false, Bool.not_true, Bool.not_false, true_implies, List.length_map, hg, rangeD, Int.toNat_natCast, List.length_range]
  refine ⟨by omega, lcGo_all (fun _ q => ∃ o : Option Int, q = pd o ∧ ∀ i, o = some i → i.natAbs ≤ 2 * BN) _ _ (fun x hx R hR => ?_) fun out hout => ?_⟩
  · try simp only [aFun, startA, toAV, sNext, sSeq, sRet, sIf, sSet, sAsg, sOwn, sLst, sDrop, sFor, sFrz, sApp, sSetIx, sRaise0, sBrk, sCont, sTry, tryX, noEx, sPar2, sPar3, aVal, aVar, aBin, aTst, aTstB, onTru, onV, truthD, aUn, aNil, aCons, aStar, itemsA, datas, aTup, aLst, aOf, aAndT, aOrT, aNotT, aAndV, aOrV, aNotV, aIf, aChain, aCB, onSeq, fLen, fTuple, fList, fInt, fAbs, fAdd, fI, fI0, fSub, fLt, fLe, fGt, fGe, fIs, fNeg, aSl, aRev, aNoPart, aPart, aLc, aYes, aFz, aFzT, frzA, frzV, aSeq, aRng1, aRng2, aZip, aEnumT, aEnumL, agName, agNil, agCons, agTup, wipeA, aCall, aCallK, flatD, List.map_cons, List.map_nil, List.length_cons, List.length_nil, List.replicate, List.getElem?_cons_zero, List.getElem?_cons_succ, List.set_cons_zero, List.set_cons_succ, List.cons_append, List.nil_append, Option.map_some, Option.map_none, Nat.sub_self, Nat.reduceSub, Nat.reduceAdd, Nat.reduceLeDiff, Nat.reduceMul, Nat.zero_add, true_and, and_true, forall_const, Bool.false_eq_true, false_implies, implies_true, reduceCtorEq, forall_eq', Bool.true_eq_false, if_true, if_false, reduceIte, ite_true, ite_false, Bool.not_true, Bool.not_false, true_implies, List.length_map]
    refine up_take (by omega) (by omega) fun r r0 r1 => ?_
    rw [fEq_int]
    by_cases h : r = 0
    · simp only [aFun, startA, toAV, sNext, sSeq, sRet, sIf, sSet, sAsg, sOwn, sLst, sDrop, sFor, sFrz, sApp, sSetIx, sRaise0, sBrk, sCont, sTry, tryX, noEx, sPar2, sPar3, aVal, aVar, aBin, aTst, aTstB, onTru, onV, truthD, aUn, aNil, aCons, aStar, itemsA, datas, aTup, aLst, aOf, aAndT, aOrT, aNotT, aAndV, aOrV, aNotV, aIf, aChain, aCB, onSeq, fLen, fTuple, fList, fInt, fAbs, fAdd, fI, fI0, fSub, fLt, fLe, fGt, fGe, fIs, fNeg, aSl, aRev, aNoPart, aPart, aLc, aYes, aFz, aFzT, frzA, frzV, aSeq, aRng1, aRng2, aZip, aEnumT, aEnumL, agName, agNil, agCons, agTup, wipeA, aCall, aCallK, flatD, List.map_cons, List.map_nil, List.length_cons, List.length_nil, List.replicate, List.getElem?_cons_zero, List.getElem?_cons_succ, List.set_cons_zero, List.set_cons_succ, List.cons_append, List.nil_append, Option.map_some, Option.map_none, Nat.sub_self, Nat.reduceSub, Nat.reduceAdd, Nat.reduceLeDiff, Nat.reduceMul, Nat.zero_add, true_and, and_true, forall_const, Bool.false_eq_true, false_implies, implies_true, reduceCtorEq, forall_eq', Bool.true_eq_false, if_true, if_false, reduceIte, ite_true, ite_false, Bool.not_true, Bool.not_false, true_implies, List.length_map, h, decide_true]
      exact hR _ ⟨none, rfl, fun i hi => by cases hi⟩
    · simp only [aFun, startA, toAV, sNext, sSeq, sRet, sIf, sSet, sAsg, sOwn, sLst, sDrop, sFor, sFrz, sApp, sSetIx, sRaise0, sBrk, sCont, sTry, tryX, noEx, sPar2, sPar3, aVal, aVar, aBin, aTst, aTstB, onTru, onV, truthD, aUn, aNil, aCons, aStar, itemsA, datas, aTup, aLst, aOf, aAndT, aOrT, aNotT, aAndV, aOrV, aNotV, aIf, aChain, aCB, onSeq, fLen, fTuple, fList, fInt, fAbs, fAdd, fI, fI0, fSub, fLt, fLe, fGt, fGe, fIs, fNeg, aSl, aRev, aNoPart, aPart, aLc, aYes, aFz, aFzT, frzA, frzV, aSeq, aRng1, aRng2, aZip, aEnumT, aEnumL, agName, agNil, agCons, agTup, wipeA, aCall, aCallK, flatD, List.map_cons, List.map_nil, List.length_cons, List.length_nil, List.replicate, List.getElem?_cons_zero, List.getElem?_cons_succ, List.set_cons_zero, List.set_cons_succ, List.cons_append, List.nil_append, Option.map_some, Option.map_none, Nat.sub_self, Nat.reduceSub, Nat.reduceAdd, Nat.reduceLeDiff, Nat.reduceMul, Nat.zero_add, true_and, and_true, forall_const, Bool.false_eq_true, false_implies, implies_true, reduceCtorEq, forall_eq', Bool.true_eq_false, if_true, if_false, reduceIte, ite_true, ite_false, Bool.not_true, Bool.not_false, true_implies, List.length_map, h, decide_false]
      refine up_of (sp_whole w fun i hi => ?_)
      exact hR _ ⟨some i, rfl, fun j hj => by cases hj; exact hi⟩
  · obtain ⟨r, rfl, hr, hb⟩ := paired_pd hout
    rw [List.length_map, List.length_range] at hr
    rw [List.nil_append]
    simp only [aFun, startA, toAV, sNext, sSeq, sRet, sIf, sSet, sAsg, sOwn, sLst, sDrop, sFor, sFrz, sApp, sSetIx, sRaise0, sBrk, sCont, sTry, tryX, noEx, sPar2, sPar3, aVal, aVar, aBin, aTst, aTstB, onTru, onV, truthD, aUn, aNil, aCons, aStar, itemsA, datas, aTup, aLst, aOf, aAndT, aOrT, aNotT, aAndV, aOrV, aNotV, aIf, aChain, aCB, onSeq, fLen, fTuple, fList, fInt, fAbs, fAdd, fI, fI0, fSub, fLt, fLe, fGt, fGe, fIs, fNeg, aSl, aRev, aNoPart, aPart, aLc, aYes, aFz, aFzT, frzA, frzV, aSeq, aRng1, aRng2, aZip, aEnumT, aEnumL, agName, agNil, agCons, agTup, wipeA, aCall, aCallK, flatD, List.map_cons, List.map_nil, List.length_cons, List.length_nil, List.replicate, List.getElem?_cons_zero, List.getElem?_cons_succ, List.set_cons_zero, List.set_cons_succ, List.cons_append, List.nil_append, Option.map_some, Option.map_none, Nat.sub_self, Nat.reduceSub, Nat.reduceAdd, Nat.reduceLeDiff, Nat.reduceMul, Nat.zero_add, true_and, and_true, forall_const, Bool.false_eq_true, false_implies, implies_true, reduceCtorEq, forall_eq', Bool.true_eq_false, if_true, if_false, reduceIte, ite_true, ite_false, Bool.not_true, Bool.not_false, true_implies, List.length_map, fMul]
    refine ⟨by simp; omega, by omega, by omega, ?_⟩
    rw [Int.toNat_natCast, flat_none, fEq_lrow]
    by_cases h : r = List.replicate n none
    · simp only [aFun, startA, toAV, sNext, sSeq, sRet, sIf, sSet, sAsg, sOwn, sLst, sDrop, sFor, sFrz, sApp, sSetIx, sRaise0, sBrk, sCont, sTry, tryX, noEx, sPar2, sPar3, aVal, aVar, aBin, aTst, aTstB, onTru, onV, truthD, aUn, aNil, aCons, aStar, itemsA, datas, aTup, aLst, aOf, aAndT, aOrT, aNotT, aAndV, aOrV, aNotV, aIf, aChain, aCB, onSeq, fLen, fTuple, fList, fInt, fAbs, fAdd, fI, fI0, fSub, fLt, fLe, fGt, fGe, fIs, fNeg, aSl, aRev, aNoPart, aPart, aLc, aYes, aFz, aFzT, frzA, frzV, aSeq, aRng1, aRng2, aZip, aEnumT, aEnumL, agName, agNil, agCons, agTup, wipeA, aCall, aCallK, flatD, List.map_cons, List.map_nil, List.length_cons, List.length_nil, List.replicate, List.getElem?_cons_zero, List.getElem?_cons_succ, List.set_cons_zero, List.set_cons_succ, List.cons_append, List.nil_append, Option.map_some, Option.map_none, Nat.sub_self, Nat.reduceSub, Nat.reduceAdd, Nat.reduceLeDiff, Nat.reduceMul, Nat.zero_add, true_and, and_true, forall_const, Bool.false_eq_true, false_implies, implies_true, reduceCtorEq, forall_eq', Bool.true_eq_false, if_true, if_false, reduceIte, ite_true, ite_false, Bool.not_true, Bool.not_false, true_implies, List.length_map, h, decide_true]
      refine up_of (sp_whole w fun i hi => ?_)
      try simp only [aFun, startA, toAV, sNext, sSeq, sRet, sIf, sSet, sAsg, sOwn, sLst, sDrop, sFor, sFrz, sApp, sSetIx, sRaise0, sBrk, sCont, sTry, tryX, noEx, sPar2, sPar3, aVal, aVar, aBin, aTst, aTstB, onTru, onV, truthD, aUn, aNil, aCons, aStar, itemsA, datas, aTup, aLst, aOf, aAndT, aOrT, aNotT, aAndV, aOrV, aNotV, aIf, aChain, aCB, onSeq, fLen, fTuple, fList, fInt, fAbs, fAdd, fI, fI0, fSub, fLt, fLe, fGt, fGe, fIs, fNeg, aSl, aRev, aNoPart, aPart, aLc, aYes, aFz, aFzT, frzA, frzV, aSeq, aRng1, aRng2, aZip, aEnumT, aEnumL, agName, agNil, agCons, agTup, wipeA, aCall, aCallK, flatD, List.map_cons, List.map_nil, List.length_cons, List.length_nil, List.replicate, List.getElem?_cons_zero, List.getElem?_cons_succ, List.set_cons_zero, List.set_cons_succ, List.cons_append, List.nil_append, Option.map_some, Option.map_none, Nat.sub_self, Nat.reduceSub, Nat.reduceAdd, Nat.reduceLeDiff, Nat.reduceMul, Nat.zero_add, true_and, and_true, forall_const, Bool.false_eq_true, false_implies, implies_true, reduceCtorEq, forall_eq', Bool.true_eq_false, if_true, if_false, reduceIte, ite_true, ite_false, Bool.not_true, Bool.not_false, true_implies, List.length_map]
      refine up_take (by omega) (by omega) fun p p0 p1 => ?_
      try simp only [aFun, startA, toAV, sNext, sSeq, sRet, sIf, sSet, sAsg, sOwn, sLst, sDrop, sFor, sFrz, sApp, sSetIx, sRaise0, sBrk, sCont, sTry, tryX, noEx, sPar2, sPar3, aVal, aVar, aBin, aTst, aTstB, onTru, onV, truthD, aUn, aNil, aCons, aStar, itemsA, datas, aTup, aLst, aOf, aAndT, aOrT, aNotT, aAndV, aOrV, aNotV, aIf, aChain, aCB, onSeq, fLen, fTuple, fList, fInt, fAbs, fAdd, fI, fI0, fSub, fLt, fLe, fGt, fGe, fIs, fNeg, aSl, aRev, aNoPart, aPart, aLc, aYes, aFz, aFzT, frzA, frzV, aSeq, aRng1, aRng2, aZip, aEnumT, aEnumL, agName, agNil, agCons, agTup, wipeA, aCall, aCallK, flatD, List.map_cons, List.map_nil, List.length_cons, List.length_nil, List.replicate, List.getElem?_cons_zero, List.getElem?_cons_succ, List.set_cons_zero, List.set_cons_succ, List.cons_append, List.nil_append, Option.map_some, Option.map_none, Nat.sub_self, Nat.reduceSub, Nat.reduceAdd, Nat.reduceLeDiff, Nat.reduceMul, Nat.zero_add, true_and, and_true, forall_const, Bool.false_eq_true, false_implies, implies_true, reduceCtorEq, forall_eq', Bool.true_eq_false, if_true, if_false, reduceIte, ite_true, ite_false, Bool.not_true, Bool.not_false, true_implies, List.length_map]
      refine ⟨p.toNat, by unfold ixN; rw [if_pos p0, if_pos (by simp; omega)], ?_⟩
      have e : ((List.replicate n (none : Option Int)).map pd).set p.toNat (.int i) = ((List.replicate n (none : Option Int)).set p.toNat (some i)).map pd := by rw [List.map_set]; rfl
      rw [e]
      refine k _ ⟨by simp, br_set (fun j hj => by have := (List.mem_replicate.mp hj).2; cases this) hi, p.toNat, i, ?_⟩
      rw [List.getElem?_set_self (by simp; omega)]
    · simp only [aFun, startA, toAV, sNext, sSeq, sRet, sIf, sSet, sAsg, sOwn, sLst, sDrop, sFor, sFrz, sApp, sSetIx, sRaise0, sBrk, sCont, sTry, tryX, noEx, sPar2, sPar3, aVal, aVar, aBin, aTst, aTstB, onTru, onV, truthD, aUn, aNil, aCons, aStar, itemsA, datas, aTup, aLst, aOf, aAndT, aOrT, aNotT, aAndV, aOrV, aNotV, aIf, aChain, aCB, onSeq, fLen, fTuple, fList, fInt, fAbs, fAdd, fI, fI0, fSub, fLt, fLe, fGt, fGe, fIs, fNeg, aSl, aRev, aNoPart, aPart, aLc, aYes, aFz, aFzT, frzA, frzV, aSeq, aRng1, aRng2, aZip, aEnumT, aEnumL, agName, agNil, agCons, agTup, wipeA, aCall, aCallK, flatD, List.map_cons, List.map_nil, List.length_cons, List.length_nil, List.replicate, List.getElem?_cons_zero, List.getElem?_cons_succ, List.set_cons_zero, List.set_cons_succ, List.cons_append, List.nil_append, Option.map_some, Option.map_none, Nat.sub_self, Nat.reduceSub, Nat.reduceAdd, Nat.reduceLeDiff, Nat.reduceMul, Nat.zero_add, true_and, and_true, forall_const, Bool.false_eq_true, false_implies, implies_true, reduceCtorEq, forall_eq', Bool.true_eq_false, if_true, if_false, reduceIte, ite_true, ite_false, Bool.not_true, Bool.not_false, true_implies, List.length_map, h, decide_false]
      refine k _ ⟨hr, hb, ?_⟩
      exact Classical.byContradiction fun z => h (by rw [← hr]; exact no_int z)
theorem br_plus {c e : Nat} {xs : Row} {i : Int} (h : BR c xs) (hi : i.natAbs ≤ e * BN) : BR (c + e) (plus xs i) := fun j hj => by
  unfold plus at hj
  obtain ⟨o, ho, h2⟩ := List.mem_map.mp hj
  cases o with
  | none => cases h2
  | some x =>
    cases h2
    have := h x ho
    rw [Nat.add_mul]
    show (x + i).natAbs ≤ _
    omega
theorem plus_len (xs : Row) (i : Int) : (plus xs i).length = xs.length := by unfold plus; rw [List.length_map]
theorem plus_at {xs : Row} {c : Int} {p : Nat} {t : Int} : (plus xs c)[p]? = some (some t) ↔ xs[p]? = some (some (t - c)) := by
  unfold plus
  rw [List.getElem?_map]
  cases xs[p]? with
  | none => simp
  | some o =>
    cases o with
    | none => simp
    | some a => simp; omega
theorem rw_plus {n c e : Nat} {xs : Row} {i : Int} (h : Rw n c xs) (hi : i.natAbs ≤ e * BN) : Rw n (c + e) (plus xs i) := by
  obtain ⟨p, a, ha⟩ := h.int
  exact ⟨by rw [plus_len]; exact h.len, br_plus h.br hi, p, a + i, plus_at.mpr (by rw [ha]; congr 2; omega)⟩
end K8

namespace K8
open PySem L2 RW RZ PySem.RW U AL
theorem ix_rows {L : List Row} {r : Int} (h0 : 0 ≤ r) (h1 : r < L.length) : ∃ x ∈ L, ∀ Q : AK, fIx (.v (rowsD L)) (.v (.int r)) Q ↔ Q (.v (rowD x)) := by
  have hr : r.toNat < L.length := by omega
  refine ⟨L[r.toNat], List.getElem_mem hr, fun Q => ?_⟩
  have := fIx_tup (f := rowD) (List.getElem?_eq_getElem hr) (Q := Q)
  rwa [show ((r.toNat : Nat) : Int) = r by omega] at this
theorem ix_row {xs : Row} {r : Int} (h0 : 0 ≤ r) (h1 : r < xs.length) : ∃ o, xs[r.toNat]? = some o ∧ ∀ Q : AK, fIx (.v (rowD xs)) (.v (.int r)) Q ↔ Q (.v (pd o)) := by
  have hr : r.toNat < xs.length := by omega
  refine ⟨xs[r.toNat], List.getElem?_eq_getElem hr, fun Q => ?_⟩
  have := fIx_tup (f := pd) (List.getElem?_eq_getElem hr) (Q := Q)
  rwa [show ((r.toNat : Nat) : Int) = r by omega] at this
def lay (xs ys : Row) : Row := (xs.zip ys).map fun p => moreN p.1 p.2
theorem lay_at {xs ys : Row} {p : Nat} {t : Int} (h : (lay xs ys)[p]? = some (some t)) : ∃ x y, xs[p]? = some x ∧ ys[p]? = some y ∧ moreN x y = some t := by
  unfold lay at h
  rw [List.getElem?_map] at h
  cases e : (xs.zip ys)[p]? with
  | none => rw [e] at h; cases h
  | some z =>
    rw [e] at h
    obtain ⟨h1, h2⟩ := List.getElem?_zip_eq_some.mp e
    exact ⟨_, _, h1, h2, Option.some.inj h⟩
theorem lay_mk {xs ys : Row} {p : Nat} {x y : Option Int} (h1 : xs[p]? = some x) (h2 : ys[p]? = some y) : (lay xs ys)[p]? = some (moreN x y) := by
  unfold lay
  rw [List.getElem?_map, show (xs.zip ys)[p]? = some (x, y) from List.getElem?_zip_eq_some.mpr ⟨h1, h2⟩]
  rfl
theorem lay_len {xs ys : Row} (h : xs.length = ys.length) : (lay xs ys).length = xs.length := by unfold lay; simp [h]
theorem more_ge1 {x y : Option Int} {l : Int} (h : x = some l) : ∃ t, moreN x y = some t ∧ l ≤ t := by
  subst h
  cases y with
  | none => exact ⟨l, rfl, Int.le_refl _⟩
  | some u =>
    by_cases h : u < l
    · exact ⟨l, by simp [moreN, h], Int.le_refl _⟩
    · exact ⟨u, by simp [moreN, h], by omega⟩
theorem more_ge2 {x y : Option Int} {l : Int} (h : y = some l) : ∃ t, moreN x y = some t ∧ l ≤ t := by
  subst h
  cases x with
  | none => exact ⟨l, rfl, Int.le_refl _⟩
  | some u =>
    by_cases h : l < u
    · exact ⟨u, by simp [moreN, h], by omega⟩
    · exact ⟨l, by simp [moreN, h], Int.le_refl _⟩
theorem more_is {x y : Option Int} {t : Int} (h : moreN x y = some t) : x = some t ∨ y = some t := by
  cases x with
  | none => exact .inr h
  | some a =>
    cases y with
    | none => exact .inl h
    | some b =>
      simp only [moreN] at h
      split at h
      · exact .inl h
      · exact .inr h
theorem made_self {rows : List Row} {r : Row} (hr : r ∈ rows) : Made rows r := fun p t ht => ⟨r, hr, t, t, ht, ht, fun q l hq => ⟨l, hq, Int.le_refl _⟩⟩
theorem made_plus {rows : List Row} {line : Row} (c : Int) : Made rows (plus line c) ↔ Made rows line := by
  constructor
  · intro h p t ht
    obtain ⟨r, hr, a, u, h1, h2, h3⟩ := h p (t + c) (plus_at.mpr (by rw [ht]; congr 2; omega))
    have h2' := plus_at.mp h2
    rw [ht] at h2'
    cases h2'
    refine ⟨r, hr, a, u - c, h1, ht, fun q l hq => ?_⟩
    obtain ⟨t', h4, h5⟩ := h3 q l hq
    exact ⟨t' - c, plus_at.mp h4, by omega⟩
  · intro h p t ht
    have ht' := plus_at.mp ht
    obtain ⟨r, hr, a, u, h1, h2, h3⟩ := h p (t - c) ht'
    rw [ht'] at h2
    cases h2
    refine ⟨r, hr, a, t, h1, ht, fun q l hq => ?_⟩
    obtain ⟨t', h4, h5⟩ := h3 q l hq
    exact ⟨t' + c, plus_at.mpr (by rw [h4]; congr 2; omega), by omega⟩
theorem made_lay {rows : List Row} {found r : Row} {c : Int} (h : Made rows found) (hr : r ∈ rows) (hl : found.length = r.length) : Made rows (lay found (plus r c)) := by
  have hl2 : found.length = (plus r c).length := by rw [plus_len]; exact hl
  have up : ∀ (q : Nat) (l : Int), found[q]? = some (some l) → ∃ t', (lay found (plus r c))[q]? = some (some t') ∧ l ≤ t' := fun q l hq => by
    have hq2 : q < (plus r c).length := by rw [← hl2]; exact (List.getElem?_eq_some_iff.mp hq).1
    obtain ⟨t, h1, h2⟩ := more_ge1 (x := some l) (y := (plus r c)[q]) rfl
    exact ⟨t, by rw [lay_mk hq (List.getElem?_eq_getElem hq2), h1], h2⟩
  intro p t ht
  obtain ⟨x, y, h1, h2, h3⟩ := lay_at ht
  rcases more_is h3 with rfl | rfl
  · obtain ⟨r', hr', a, u, k1, k2, k3⟩ := h p t h1
    rw [h1] at k2
    cases k2
    refine ⟨r', hr', a, t, k1, ht, fun q l hq => ?_⟩
    obtain ⟨t', k4, k5⟩ := k3 q l hq
    obtain ⟨t2, k6, k7⟩ := up q t' k4
    exact ⟨t2, k6, by omega⟩
  · have h2' := plus_at.mp h2
    refine ⟨r, hr, t - c, t, h2', ht, fun q l hq => ?_⟩
    have hq1 : q < found.length := by rw [hl]; exact (List.getElem?_eq_some_iff.mp hq).1
    have hq3 : (plus r c)[q]? = some (some (l + c)) := plus_at.mpr (by rw [hq]; congr 2; omega)
    obtain ⟨t', k1, k2⟩ := more_ge2 (x := found[q]) (y := some (l + c)) rfl
    exact ⟨t', by rw [lay_mk (List.getElem?_eq_getElem hq1) hq3, k1], by omega⟩
theorem br_lay {c : Nat} {xs ys : Row} (h1 : BR c xs) (h2 : BR c ys) : BR c (lay xs ys) := fun i hi => by
  obtain ⟨p, hp⟩ := List.mem_iff_getElem?.mp hi
  obtain ⟨x, y, k1, k2, k3⟩ := lay_at hp
  rcases more_is k3 with rfl | rfl
  · exact h1 i (List.mem_of_getElem? k1)
  · exact h2 i (List.mem_of_getElem? k2)
theorem rw_lay {n c : Nat} {xs ys : Row} (h1 : Rw n c xs) (h2 : Rw n c ys) : Rw n c (lay xs ys) := by
  obtain ⟨p, a, ha⟩ := h1.int
  have hp : p < ys.length := by rw [h2.len, ← h1.len]; exact (List.getElem?_eq_some_iff.mp ha).1
  obtain ⟨t, k1, k2⟩ := more_ge1 (x := some a) (y := ys[p]) rfl
  exact ⟨by rw [lay_len (by rw [h1.len, h2.len])]; exact h1.len, br_lay h1.br h2.br, p, t, by rw [lay_mk ha (List.getElem?_eq_getElem hp), k1]⟩
theorem Rw.mono {n c c2 : Nat} {xs : Row} (h : Rw n c xs) (hc : c ≤ c2) : Rw n c2 xs := ⟨h.len, h.br.mono hc, h.int⟩
theorem made_go {a b : Int} {n : Nat} {rows : List Row} (w : Wd a b) (n1 : n ≤ 4) (hk : rows.length ≤ 1000) (h : ∀ r ∈ rows, Rw n 3 r) (hne : rows ≠ []) {D : AEnds} (hn : ∀ xs o4 o5 o6 o7, Rw n 5 xs → Made rows xs → D.nx [some .urn, some (.dat (rowsD rows)), some (.dat (wdD a b)), some (.dat (rowD xs)), o4, o5, o6, o7]) : ∀ (l : List PyData) (xs : Row) (o4 o5 o6 o7 : Option AV), Rw n 5 xs → Made rows xs →
    forGo (agName 4) S_law_made_1 D l [some .urn, some (.dat (rowsD rows)), some (.dat (wdD a b)), some (.dat (rowD xs)), o4, o5, o6, o7]
  | [], xs, o4, o5, o6, o7, h1, h2 => hn _ _ _ _ _ h1 h2
  | x :: l, xs, o4, o5, o6, o7, h1, h2 => by
    have ih := made_go w n1 hk h hne hn l
    have hz : 0 < rows.length := List.length_pos_iff.mpr hne
    unfold forGo
    generalize forGo (agName 4) S_law_made_1 D l = F at ih ⊢
    simp only [S_law_made_1, aFun, startA, toAV, sNext, sSeq, sRet, sIf, sSet, sAsg, sOwn, sLst, sDrop, sFor, sFrz, sApp, sSetIx, sRaise0, sBrk, sCont, sTry, tryX, noEx, sPar2, sPar3, aVal, aVar, aBin, aTst, aTstB, onTru, onV, truthD, aUn, aNil, aCons, aStar, itemsA, datas, aTup, aLst, aOf, aAndT, aOrT, aNotT, aAndV, aOrV, aNotV, aIf, aChain, aCB, onSeq, fLen, fTuple, fList, fInt, fAbs, fAdd, fI, fI0, fSub, fLt, fLe, fGt, fGe, fIs, fNeg, aSl, aRev, aNoPart, aPart, aLc, aYes, aFz, aFzT, frzA, frzV, aSeq, aRng1, aRng2, aZip, aEnumT, aEnumL, agName, agNil, agCons, agTup, wipeA, aCall, aCallK, flatD, List.map_cons, List.map_nil, List.length_cons, List.length_nil, List.replicate, List.getElem?_cons_zero, List.getElem?_cons_succ, List.set_cons_zero, List.set_cons_succ, List.cons_append, List.nil_append, Option.map_some, Option.map_none, Nat.sub_self, Nat.reduceSub, Nat.reduceAdd, Nat.reduceLeDiff, Nat.reduceMul, Nat.zero_add, true_and, and_true, forall_const, Bool.false_eq_true, false_implies, implies_true, reduceCtorEq, forall_eq', Bool.true_eq_false, if_true, if_false, reduceIte, ite_true, ite_false, Bool.not_true, Bool.not_false, true_implies, List.length_map]
    refine up_take (by omega) (by omega) fun r r0 r1 => ?_
    obtain ⟨y, hy, ey⟩ := ix_rows r0 r1
    try simp only [aFun, startA, toAV, sNext, sSeq, sRet, sIf, sSet, sAsg, sOwn, sLst, sDrop, sFor, sFrz, sApp, sSetIx, sRaise0, sBrk, sCont, sTry, tryX, noEx, sPar2, sPar3, aVal, aVar, aBin, aTst, aTstB, onTru, onV, truthD, aUn, aNil, aCons, aStar, itemsA, datas, aTup, aLst, aOf, aAndT, aOrT, aNotT, aAndV, aOrV, aNotV, aIf, aChain, aCB, onSeq, fLen, fTuple, fList, fInt, fAbs, fAdd, fI, fI0, fSub, fLt, fLe, fGt, fGe, fIs, fNeg, aSl, aRev, aNoPart, aPart, aLc, aYes, aFz, aFzT, frzA, frzV, aSeq, aRng1, aRng2, aZip, aEnumT, aEnumL, agName, agNil, agCons, agTup, wipeA, aCall, aCallK, flatD, List.map_cons, List.map_nil, List.length_cons, List.length_nil, List.replicate, List.getElem?_cons_zero, List.getElem?_cons_succ, List.set_cons_zero, List.set_cons_succ, List.cons_append, List.nil_append, Option.map_some, Option.map_none, Nat.sub_self, Nat.reduceSub, Nat.reduceAdd, Nat.reduceLeDiff, Nat.reduceMul, Nat.zero_add, true_and, and_true, forall_const, Bool.false_eq_true, false_implies, implies_true, reduceCtorEq, forall_eq', Bool.true_eq_false, if_true, if_false, reduceIte, ite_true, ite_false, Bool.not_true, Bool.not_false, true_implies, List.length_map]
    rw [ey]
    refine up_of (sp_whole w fun i hi => ?_)
    try simp only [aFun, startA, toAV, sNext, sSeq, sRet, sIf, sSet, sAsg, sOwn, sLst, sDrop, sFor, sFrz, sApp, sSetIx, sRaise0, sBrk, sCont, sTry, tryX, noEx, sPar2, sPar3, aVal, aVar, aBin, aTst, aTstB, onTru, onV, truthD, aUn, aNil, aCons, aStar, itemsA, datas, aTup, aLst, aOf, aAndT, aOrT, aNotT, aAndV, aOrV, aNotV, aIf, aChain, aCB, onSeq, fLen, fTuple, fList, fInt, fAbs, fAdd, fI, fI0, fSub, fLt, fLe, fGt, fGe, fIs, fNeg, aSl, aRev, aNoPart, aPart, aLc, aYes, aFz, aFzT, frzA, frzV, aSeq, aRng1, aRng2, aZip, aEnumT, aEnumL, agName, agNil, agCons, agTup, wipeA, aCall, aCallK, flatD, List.map_cons, List.map_nil, List.length_cons, List.length_nil, List.replicate, List.getElem?_cons_zero, List.getElem?_cons_succ, List.set_cons_zero, List.set_cons_succ, List.cons_append, List.nil_append, Option.map_some, Option.map_none, Nat.sub_self, Nat.reduceSub, Nat.reduceAdd, Nat.reduceLeDiff, Nat.reduceMul, Nat.zero_add, true_and, and_true, forall_const, Bool.false_eq_true, false_implies, implies_true, reduceCtorEq, forall_eq', Bool.true_eq_false, if_true, if_false, reduceIte, ite_true, ite_false, Bool.not_true, Bool.not_false, true_implies, List.length_map]
    rw [up_iff (sp_plus y i (by rw [(h y hy).len]; omega))]
    try simp only [aFun, startA, toAV, sNext, sSeq, sRet, sIf, sSet, sAsg, sOwn, sLst, sDrop, sFor, sFrz, sApp, sSetIx, sRaise0, sBrk, sCont, sTry, tryX, noEx, sPar2, sPar3, aVal, aVar, aBin, aTst, aTstB, onTru, onV, truthD, aUn, aNil, aCons, aStar, itemsA, datas, aTup, aLst, aOf, aAndT, aOrT, aNotT, aAndV, aOrV, aNotV, aIf, aChain, aCB, onSeq, fLen, fTuple, fList, fInt, fAbs, fAdd, fI, fI0, fSub, fLt, fLe, fGt, fGe, fIs, fNeg, aSl, aRev, aNoPart, aPart, aLc, aYes, aFz, aFzT, frzA, frzV, aSeq, aRng1, aRng2, aZip, aEnumT, aEnumL, agName, agNil, agCons, agTup, wipeA, aCall, aCallK, flatD, List.map_cons, List.map_nil, List.length_cons, List.length_nil, List.replicate, List.getElem?_cons_zero, List.getElem?_cons_succ, List.set_cons_zero, List.set_cons_succ, List.cons_append, List.nil_append, Option.map_some, Option.map_none, Nat.sub_self, Nat.reduceSub, Nat.reduceAdd, Nat.reduceLeDiff, Nat.reduceMul, Nat.zero_add, true_and, and_true, forall_const, Bool.false_eq_true, false_implies, implies_true, reduceCtorEq, forall_eq', Bool.true_eq_false, if_true, if_false, reduceIte, ite_true, ite_false, Bool.not_true, Bool.not_false, true_implies, List.length_map, zipD_map]
    have hy2 : Rw n 5 (plus y i) := rw_plus (h y hy) hi
    rw [lcGo_map (fun p : Option Int × Option Int => pd (moreN p.1 p.2))]
    · have hz2 : (xs.zip (plus y i)).length ≤ 2000000 := by rw [List.length_zip, h1.len]; omega
      simp only [hz2, true_and, List.nil_append, aFun, startA, toAV, sNext, sSeq, sRet, sIf, sSet, sAsg, sOwn, sLst, sDrop, sFor, sFrz, sApp, sSetIx, sRaise0, sBrk, sCont, sTry, tryX, noEx, sPar2, sPar3, aVal, aVar, aBin, aTst, aTstB, onTru, onV, truthD, aUn, aNil, aCons, aStar, itemsA, datas, aTup, aLst, aOf, aAndT, aOrT, aNotT, aAndV, aOrV, aNotV, aIf, aChain, aCB, onSeq, fLen, fTuple, fList, fInt, fAbs, fAdd, fI, fI0, fSub, fLt, fLe, fGt, fGe, fIs, fNeg, aSl, aRev, aNoPart, aPart, aLc, aYes, aFz, aFzT, frzA, frzV, aSeq, aRng1, aRng2, aZip, aEnumT, aEnumL, agName, agNil, agCons, agTup, wipeA, aCall, aCallK, flatD, List.map_cons, List.map_nil, List.length_cons, List.length_nil, List.replicate, List.getElem?_cons_zero, List.getElem?_cons_succ, List.set_cons_zero, List.set_cons_succ, List.cons_append, List.nil_append, Option.map_some, Option.map_none, Nat.sub_self, Nat.reduceSub, Nat.reduceAdd, Nat.reduceLeDiff, Nat.reduceMul, Nat.zero_add, true_and, and_true, forall_const, Bool.false_eq_true, false_implies, implies_true, reduceCtorEq, forall_eq', Bool.true_eq_false, if_true, if_false, reduceIte, ite_true, ite_false, Bool.not_true, Bool.not_false, true_implies, List.length_map]
      have e : (xs.zip (plus y i)).map (fun p : Option Int × Option Int => pd (moreN p.1 p.2)) = (lay xs (plus y i)).map pd := by unfold lay; rw [List.map_map]; rfl
      rw [e]
      exact ih (lay xs (plus y i)) _ _ _ _ (rw_lay h1 hy2) (made_lay h2 hy (by rw [h1.len, (h y hy).len]))
    · intro p hp R
      simp only [aFun, startA, toAV, sNext, sSeq, sRet, sIf, sSet, sAsg, sOwn, sLst, sDrop, sFor, sFrz, sApp, sSetIx, sRaise0, sBrk, sCont, sTry, tryX, noEx, sPar2, sPar3, aVal, aVar, aBin, aTst, aTstB, onTru, onV, truthD, aUn, aNil, aCons, aStar, itemsA, datas, aTup, aLst, aOf, aAndT, aOrT, aNotT, aAndV, aOrV, aNotV, aIf, aChain, aCB, onSeq, fLen, fTuple, fList, fInt, fAbs, fAdd, fI, fI0, fSub, fLt, fLe, fGt, fGe, fIs, fNeg, aSl, aRev, aNoPart, aPart, aLc, aYes, aFz, aFzT, frzA, frzV, aSeq, aRng1, aRng2, aZip, aEnumT, aEnumL, agName, agNil, agCons, agTup, wipeA, aCall, aCallK, flatD, List.map_cons, List.map_nil, List.length_cons, List.length_nil, List.replicate, List.getElem?_cons_zero, List.getElem?_cons_succ, List.set_cons_zero, List.set_cons_succ, List.cons_append, List.nil_append, Option.map_some, Option.map_none, Nat.sub_self, Nat.reduceSub, Nat.reduceAdd, Nat.reduceLeDiff, Nat.reduceMul, Nat.zero_add, true_and, and_true, forall_const, Bool.false_eq_true, false_implies, implies_true, reduceCtorEq, forall_eq', Bool.true_eq_false, if_true, if_false, reduceIte, ite_true, ite_false, Bool.not_true, Bool.not_false, true_implies, List.length_map]
      rw [up_iff (sp_more p.1 p.2)]
theorem sp_lmade_u {a b : Int} {n : Nat} {rows : List Row} (w : Wd a b) (n1 : n ≤ 4) (hk : rows.length ≤ 1000) (h : ∀ r ∈ rows, Rw n 3 r) (hne : rows ≠ []) {Q : PyData → Prop} {E : AXK} (k : ∀ xs, Rw n 7 xs → Made rows xs → Q (rowD xs)) : A_law_made [.urn, .v (rowsD rows), .v (wdD a b)] Q E := by
  have hz : 0 < rows.length := List.length_pos_iff.mpr hne
  simp only [A_law_made, S_law_made, aFun, startA, toAV, sNext, sSeq, sRet, sIf, sSet, sAsg, sOwn, sLst, sDrop, sFor, sFrz, sApp, sSetIx, sRaise0, sBrk, sCont, sTry, tryX, noEx, sPar2, sPar3, aVal, aVar, aBin, aTst, aTstB, onTru, onV, truthD, aUn, aNil, aCons, aStar, itemsA, datas, aTup, aLst, aOf, aAndT, aOrT, aNotT, aAndV, aOrV, aNotV, aIf, aChain, aCB, onSeq, fLen, fTuple, fList, fInt, fAbs, fAdd, fI, fI0, fSub, fLt, fLe, fGt, fGe, fIs, fNeg, aSl, aRev, aNoPart, aPart, aLc, aYes, aFz, aFzT, frzA, frzV, aSeq, aRng1, aRng2, aZip, aEnumT, aEnumL, agName, agNil, agCons, agTup, wipeA, aCall, aCallK, flatD, List.map_cons, List.map_nil, List.length_cons, List.length_nil, List.replicate, List.getElem?_cons_zero, List.getElem?_cons_succ, List.set_cons_zero, List.set_cons_succ, List.cons_append, List.nil_append, Option.map_some, Option.map_none, Nat.sub_self, Nat.reduceSub, Nat.reduceAdd, Nat.reduceLeDiff, Nat.reduceMul, Nat.zero_add, true_and, and_true, forall_const, Bool.false_eq_true, false_implies, implies_true, reduceCtorEq, forall_eq', Bool.true_eq_false, if_true, if_false, reduceIte, ite_true, ite_false, Bool.not_true, Bool.not_false, true_implies, List.length_map]
  refine up_take (by omega) (by omega) fun r r0 r1 => ?_
  obtain ⟨y, hy, ey⟩ := ix_rows r0 r1
  try simp only [aFun, startA, toAV, sNext, sSeq, sRet, sIf, sSet, sAsg, sOwn, sLst, sDrop, sFor, sFrz, sApp, sSetIx, sRaise0, sBrk, sCont, sTry, tryX, noEx, sPar2, sPar3, aVal, aVar, aBin, aTst, aTstB, onTru, onV, truthD, aUn, aNil, aCons, aStar, itemsA, datas, aTup, aLst, aOf, aAndT, aOrT, aNotT, aAndV, aOrV, aNotV, aIf, aChain, aCB, onSeq, fLen, fTuple, fList, fInt, fAbs, fAdd, fI, fI0, fSub, fLt, fLe, fGt, fGe, fIs, fNeg, aSl, aRev, aNoPart, aPart, aLc, aYes, aFz, aFzT, frzA, frzV, aSeq, aRng1, aRng2, aZip, aEnumT, aEnumL, agName, agNil, agCons, agTup, wipeA, aCall, aCallK, flatD, List.map_cons, List.map_nil, List.length_cons, List.length_nil, List.replicate, List.getElem?_cons_zero, List.getElem?_cons_succ, List.set_cons_zero, List.set_cons_succ, List.cons_append, List.nil_append, Option.map_some, Option.map_none, Nat.sub_self, Nat.reduceSub, Nat.reduceAdd, Nat.reduceLeDiff, Nat.reduceMul, Nat.zero_add, true_and, and_true, forall_const, Bool.false_eq_true, false_implies, implies_true, reduceCtorEq, forall_eq', Bool.true_eq_false, if_true, if_false, reduceIte, ite_true, ite_false, Bool.not_true, Bool.not_false, true_implies, List.length_map]
  rw [ey]
  try simp only [aFun, startA, toAV, sNext, sSeq, sRet, sIf, sSet, sAsg, sOwn, sLst, sDrop, sFor, sFrz, sApp, sSetIx, sRaise0, sBrk, sCont, sTry, tryX, noEx, sPar2, sPar3, aVal, aVar, aBin, aTst, aTstB, onTru, onV, truthD, aUn, aNil, aCons, aStar, itemsA, datas, aTup, aLst, aOf, aAndT, aOrT, aNotT, aAndV, aOrV, aNotV, aIf, aChain, aCB, onSeq, fLen, fTuple, fList, fInt, fAbs, fAdd, fI, fI0, fSub, fLt, fLe, fGt, fGe, fIs, fNeg, aSl, aRev, aNoPart, aPart, aLc, aYes, aFz, aFzT, frzA, frzV, aSeq, aRng1, aRng2, aZip, aEnumT, aEnumL, agName, agNil, agCons, agTup, wipeA, aCall, aCallK, flatD, List.map_cons, List.map_nil, List.length_cons, List.length_nil, List.replicate, List.getElem?_cons_zero, List.getElem?_cons_succ, List.set_cons_zero, List.set_cons_succ, List.cons_append, List.nil_append, Option.map_some, Option.map_none, Nat.sub_self, Nat.reduceSub, Nat.reduceAdd, Nat.reduceLeDiff, Nat.reduceMul, Nat.zero_add, true_and, and_true, forall_const, Bool.false_eq_true, false_implies, implies_true, reduceCtorEq, forall_eq', Bool.true_eq_false, if_true, if_false, reduceIte, ite_true, ite_false, Bool.not_true, Bool.not_false, true_implies, List.length_map]
  refine up_take (by omega) (by omega) fun s s0 s1 => ?_
  have hg : RgB s := ⟨by omega, by omega⟩
  simp only [aFun, startA, toAV, sNext, sSeq, sRet, sIf, sSet, sAsg, sOwn, sLst, sDrop, sFor, sFrz, sApp, sSetIx, sRaise0, sBrk, sCont, sTry, tryX, noEx, sPar2, sPar3, aVal, aVar, aBin, aTst, aTstB, onTru, onV, truthD, aUn, aNil, aCons, aStar, itemsA, datas, aTup, aLst, aOf, aAndT, aOrT, aNotT, aAndV, aOrV, aNotV, aIf, aChain, aCB, onSeq, fLen, fTuple, fList, fInt, fAbs, fAdd, fI, fI0, fSub, fLt, fLe, fGt, fGe, fIs, fNeg, aSl, aRev, aNoPart, aPart, aLc, aYes, aFz, aFzT, frzA, frzV, aSeq, aRng1, aRng2, aZip, aEnumT, aEnumL, agName, agNil, agCons, agTup, wipeA, aCall, aCallK, flatD, List.map_cons, List.map_nil, List.length_cons, List.length_nil, List.replicate, List.getElem?_cons_zero, List.getElem?_cons_succ, List.set_cons_zero, List.set_cons_succ, List.cons_append, List.nil_append, Option.map_some, Option.map_none, Nat.sub_self, Nat.reduceSub, Nat.reduceAdd, Nat.reduceLeDiff, Nat.reduceMul, Nat.zero_add, true_and, and_true, forall_const, Bool.false_eq_true, false_implies, implies_true, reduceCtorEq, forall_eq', Bool.true_eq_false, if_true, if_false, reduceIte, ite_true, ite_false, Bool.not_true, Bool.not_false, true_implies, List.length_map, hg]
  refine made_go w n1 hk h hne (fun xs o4 o5 o6 o7 h1 h2 => ?_) _ y _ _ _ _ ((h y hy).mono (by omega)) (made_self hy)
  simp only [aFun, startA, toAV, sNext, sSeq, sRet, sIf, sSet, sAsg, sOwn, sLst, sDrop, sFor, sFrz, sApp, sSetIx, sRaise0, sBrk, sCont, sTry, tryX, noEx, sPar2, sPar3, aVal, aVar, aBin, aTst, aTstB, onTru, onV, truthD, aUn, aNil, aCons, aStar, itemsA, datas, aTup, aLst, aOf, aAndT, aOrT, aNotT, aAndV, aOrV, aNotV, aIf, aChain, aCB, onSeq, fLen, fTuple, fList, fInt, fAbs, fAdd, fI, fI0, fSub, fLt, fLe, fGt, fGe, fIs, fNeg, aSl, aRev, aNoPart, aPart, aLc, aYes, aFz, aFzT, frzA, frzV, aSeq, aRng1, aRng2, aZip, aEnumT, aEnumL, agName, agNil, agCons, agTup, wipeA, aCall, aCallK, flatD, List.map_cons, List.map_nil, List.length_cons, List.length_nil, List.replicate, List.getElem?_cons_zero, List.getElem?_cons_succ, List.set_cons_zero, List.set_cons_succ, List.cons_append, List.nil_append, Option.map_some, Option.map_none, Nat.sub_self, Nat.reduceSub, Nat.reduceAdd, Nat.reduceLeDiff, Nat.reduceMul, Nat.zero_add, true_and, and_true, forall_const, Bool.false_eq_true, false_implies, implies_true, reduceCtorEq, forall_eq', Bool.true_eq_false, if_true, if_false, reduceIte, ite_true, ite_false, Bool.not_true, Bool.not_false, true_implies, List.length_map]
  refine up_of (sp_whole w fun i hi => ?_)
  try simp only [aFun, startA, toAV, sNext, sSeq, sRet, sIf, sSet, sAsg, sOwn, sLst, sDrop, sFor, sFrz, sApp, sSetIx, sRaise0, sBrk, sCont, sTry, tryX, noEx, sPar2, sPar3, aVal, aVar, aBin, aTst, aTstB, onTru, onV, truthD, aUn, aNil, aCons, aStar, itemsA, datas, aTup, aLst, aOf, aAndT, aOrT, aNotT, aAndV, aOrV, aNotV, aIf, aChain, aCB, onSeq, fLen, fTuple, fList, fInt, fAbs, fAdd, fI, fI0, fSub, fLt, fLe, fGt, fGe, fIs, fNeg, aSl, aRev, aNoPart, aPart, aLc, aYes, aFz, aFzT, frzA, frzV, aSeq, aRng1, aRng2, aZip, aEnumT, aEnumL, agName, agNil, agCons, agTup, wipeA, aCall, aCallK, flatD, List.map_cons, List.map_nil, List.length_cons, List.length_nil, List.replicate, List.getElem?_cons_zero, List.getElem?_cons_succ, List.set_cons_zero, List.set_cons_succ, List.cons_append, List.nil_append, Option.map_some, Option.map_none, Nat.sub_self, Nat.reduceSub, Nat.reduceAdd, Nat.reduceLeDiff, Nat.reduceMul, Nat.zero_add, true_and, and_true, forall_const, Bool.false_eq_true, false_implies, implies_true, reduceCtorEq, forall_eq', Bool.true_eq_false, if_true, if_false, reduceIte, ite_true, ite_false, Bool.not_true, Bool.not_false, true_implies, List.length_map]
  rw [up_iff (sp_plus xs i (by rw [h1.len]; omega))]
  exact k _ (rw_plus h1 hi) ((made_plus i).mpr h2)
end K8

namespace K8
open PySem L2 RW RZ PySem.RW U AL
theorem near_row {n c : Nat} {line : Row} (hlen : line.length = n) (h : Rw n c line) (j : Nat) (hj : j < line.length) (y : Option Int) (hy : ∀ i, y = some i → i.natAbs ≤ (c + 2) * BN) (hne : line.take j ++ [y] ++ line.drop (j + 1) ≠ List.replicate line.length none) : Rw n (c + 2) (line.take j ++ [y] ++ line.drop (j + 1)) := by
  have hl : (line.take j ++ [y] ++ line.drop (j + 1)).length = n := by simp; omega
  refine ⟨hl, fun i hi => ?_, Classical.byContradiction fun z => hne (by rw [hlen, ← hl]; exact no_int z)⟩
  rcases List.mem_append.mp hi with hi | hi
  · rcases List.mem_append.mp hi with hi | hi
    · exact Nat.le_trans (h.br i (List.mem_of_mem_take hi)) (Nat.mul_le_mul_right _ (by omega))
    · exact hy i (List.mem_singleton.mp hi).symm
  · exact Nat.le_trans (h.br i (List.mem_of_mem_drop hi)) (Nat.mul_le_mul_right _ (by omega))
theorem near_num {c : Nat} {v z : Int} (hv : v.natAbs ≤ c * BN) (hz : z.natAbs ≤ 2 * BN) {q : PyData} (hq : q ∈ [PyData.int (v + 1), .int (v - 1), .int v, .none, .int (v + z)]) : ∃ y : Option Int, q = pd y ∧ ∀ i, y = some i → i.natAbs ≤ (c + 2) * BN := by
  have hB := BN_pos
  have e2 : (c + 2) * BN = c * BN + 2 * BN := Nat.add_mul ..
  simp only [List.mem_cons, List.mem_nil_iff, or_false] at hq
  rcases hq with rfl | rfl | rfl | rfl | rfl
  · exact ⟨some (v + 1), rfl, fun i hi => by cases hi; omega⟩
  · exact ⟨some (v - 1), rfl, fun i hi => by cases hi; omega⟩
  · exact ⟨some v, rfl, fun i hi => by cases hi; omega⟩
  · exact ⟨none, rfl, fun i hi => by cases hi⟩
  · exact ⟨some (v + z), rfl, fun i hi => by cases hi; omega⟩
theorem sp_near {a b : Int} {n c : Nat} {line : Row} (w : Wd a b) (n0 : 1 ≤ n) (n1 : n ≤ 4) (h : Rw n c line) (hc : 2 ≤ c) {Q : PyData → Prop} {E : AXK} (k : ∀ xs, Rw n (c + 2) xs → Q (rowD xs)) : A_law_near [.urn, .v (rowD line), .v (wdD a b)] Q E := by
  have hlen := h.len
  simp only [A_law_near, S_law_near]
  (simp only [aFun, startA, toAV, sNext, sSeq, sRet, sIf, sSet, sAsg, sOwn, sLst, sDrop, sFor, sFrz, sApp, sSetIx, sRaise0, sBrk, sCont, sTry, tryX, noEx, sPar2, sPar3, aVal, aVar, aBin, aTst, aTstB, onTru, onV, truthD, aUn, aNil, aCons, aStar, itemsA, datas, aTup, aLst, aOf, aAndT, aOrT, aNotT, aAndV, aOrV, aNotV, aIf, aChain, aCB, onSeq, fLen, fTuple, fList, fInt, fAbs, fAdd, fI, fI0, fSub, fLt, fLe, fGt, fGe, fIs, fNeg, aSl, aRev, aNoPart, aPart, aLc, aYes, aFz, aFzT, frzA, frzV, aSeq, aRng1, aRng2, aZip, aEnumT, aEnumL, agName, agNil, agCons, agTup, wipeA, aCall, aCallK, flatD]; (try simp only [List.map_cons, List.map_nil, List.length_cons, List.length_nil, List.replicate, List.getElem?_cons_zero, List.getElem?_cons_succ, List.set_cons_zero, List.set_cons_succ, List.cons_append, List.nil_append, Option.map_some, Option.map_none, Nat.sub_self, Nat.reduceSub, Nat.reduceAdd, Nat.reduceLeDiff, Nat.reduceMul, Nat.zero_add, true_and, and_true, forall_const, Bool.false_eq_true, false_implies, implies_true, reduceCtorEq, forall_eq', Bool.true_eq_false, if_true, if_false, reduceIte, ite_true, ite_false, Bool.not_true, Bool.not_false, true_implies, List.length_map]); (try simp only [aFun, startA, toAV, sNext, sSeq, sRet, sIf, sSet, sAsg, sOwn, sLst, sDrop, sFor, sFrz, sApp, sSetIx, sRaise0, sBrk, sCont, sTry, tryX, noEx, sPar2, sPar3, aVal, aVar, aBin, aTst, aTstB, onTru, onV, truthD, aUn, aNil, aCons, aStar, itemsA, datas, aTup, aLst, aOf, aAndT, aOrT, aNotT, aAndV, aOrV, aNotV, aIf, aChain, aCB, onSeq, fLen, fTuple, fList, fInt, fAbs, fAdd, fI, fI0, fSub, fLt, fLe, fGt, fGe, fIs, fNeg, aSl, aRev, aNoPart, aPart, aLc, aYes, aFz, aFzT, frzA, frzV, aSeq, aRng1, aRng2, aZip, aEnumT, aEnumL, agName, agNil, agCons, agTup, wipeA, aCall, aCallK, flatD]); (try simp only [List.map_cons, List.map_nil, List.length_cons, List.length_nil, List.replicate, List.getElem?_cons_zero, List.getElem?_cons_succ, List.set_cons_zero, List.set_cons_succ, List.cons_append, List.nil_append, Option.map_some, Option.map_none, Nat.sub_self, Nat.reduceSub, Nat.reduceAdd, Nat.reduceLeDiff, Nat.reduceMul, Nat.zero_add, true_and, and_true, forall_const, Bool.false_eq_true, false_implies, implies_true, reduceCtorEq, forall_eq', Bool.true_eq_false, if_true, if_false, reduceIte, ite_true, ite_false, Bool.not_true, Bool.not_false, true_implies, List.length_map]))
  refine up_take (by omega) (by omega) fun r r0 r1 => ?_
  obtain ⟨j, rfl⟩ : ∃ j : Nat, r = (j : Int) := ⟨r.toNat, by omega⟩
  have hj : j < line.length := by omega
  have ho : line[j]? = some line[j] := List.getElem?_eq_getElem hj
  (try simp only [aFun, startA, toAV, sNext, sSeq, sRet, sIf, sSet, sAsg, sOwn, sLst, sDrop, sFor, sFrz, sApp, sSetIx, sRaise0, sBrk, sCont, sTry, tryX, noEx, sPar2, sPar3, aVal, aVar, aBin, aTst, aTstB, onTru, onV, truthD, aUn, aNil, aCons, aStar, itemsA, datas, aTup, aLst, aOf, aAndT, aOrT, aNotT, aAndV, aOrV, aNotV, aIf, aChain, aCB, onSeq, fLen, fTuple, fList, fInt, fAbs, fAdd, fI, fI0, fSub, fLt, fLe, fGt, fGe, fIs, fNeg, aSl, aRev, aNoPart, aPart, aLc, aYes, aFz, aFzT, frzA, frzV, aSeq, aRng1, aRng2, aZip, aEnumT, aEnumL, agName, agNil, agCons, agTup, wipeA, aCall, aCallK, flatD]); (try simp only [List.map_cons, List.map_nil, List.length_cons, List.length_nil, List.replicate, List.getElem?_cons_zero, List.getElem?_cons_succ, List.set_cons_zero, List.set_cons_succ, List.cons_append, List.nil_append, Option.map_some, Option.map_none, Nat.sub_self, Nat.reduceSub, Nat.reduceAdd, Nat.reduceLeDiff, Nat.reduceMul, Nat.zero_add, true_and, and_true, forall_const, Bool.false_eq_true, false_implies, implies_true, reduceCtorEq, forall_eq', Bool.true_eq_false, if_true, if_false, reduceIte, ite_true, ite_false, Bool.not_true, Bool.not_false, true_implies, List.length_map])
  rw [fIx_tup ho]
  have e1 : cutD (line.map pd) none (some (j : Int)) = (line.take j).map pd := by rw [cutD_lo, List.map_take]
  have e2 : cutD (line.map pd) (some ((j : Int) + 1)) none = (line.drop (j + 1)).map pd := by
    rw [show ((j : Int) + 1) = ((j + 1 : Nat) : Int) from rfl, cutD_hi, List.map_drop]
  have l1 : (line.take j).length ≤ 4 := by rw [List.length_take]; omega
  have l2 : (line.drop (j + 1)).length ≤ 4 := by rw [List.length_drop]; omega
  have e4 : (List.replicate ((line.length : Nat) : Int).toNat [PyData.none]).flatten = (List.replicate line.length (none : Option Int)).map pd := by rw [Int.toNat_natCast, flat_none]
  cases eo : line[j] with
  | none =>
    simp only [aFun, startA, toAV, sNext, sSeq, sRet, sIf, sSet, sAsg, sOwn, sLst, sDrop, sFor, sFrz, sApp, sSetIx, sRaise0, sBrk, sCont, sTry, tryX, noEx, sPar2, sPar3, aVal, aVar, aBin, aTst, aTstB, onTru, onV, truthD, aUn, aNil, aCons, aStar, itemsA, datas, aTup, aLst, aOf, aAndT, aOrT, aNotT, aAndV, aOrV, aNotV, aIf, aChain, aCB, onSeq, fLen, fTuple, fList, fInt, fAbs, fAdd, fI, fI0, fSub, fLt, fLe, fGt, fGe, fIs, fNeg, aSl, aRev, aNoPart, aPart, aLc, aYes, aFz, aFzT, frzA, frzV, aSeq, aRng1, aRng2, aZip, aEnumT, aEnumL, agName, agNil, agCons, agTup, wipeA, aCall, aCallK, flatD, List.map_cons, List.map_nil, List.length_cons, List.length_nil, List.replicate, List.getElem?_cons_zero, List.getElem?_cons_succ, List.set_cons_zero, List.set_cons_succ, List.cons_append, List.nil_append, Option.map_some, Option.map_none, Nat.sub_self, Nat.reduceSub, Nat.reduceAdd, Nat.reduceLeDiff, Nat.reduceMul, Nat.zero_add, true_and, and_true, forall_const, Bool.false_eq_true, false_implies, implies_true, reduceCtorEq, forall_eq', Bool.true_eq_false, if_true, if_false, reduceIte, ite_true, ite_false, Bool.not_true, Bool.not_false, true_implies, List.length_map, pdn, isNone]
    refine up_of (sp_whole w fun v hv0 => ?_)
    have hv : v.natAbs ≤ c * BN := Nat.le_trans hv0 (Nat.mul_le_mul_right _ hc)
    (try simp only [aFun, startA, toAV, sNext, sSeq, sRet, sIf, sSet, sAsg, sOwn, sLst, sDrop, sFor, sFrz, sApp, sSetIx, sRaise0, sBrk, sCont, sTry, tryX, noEx, sPar2, sPar3, aVal, aVar, aBin, aTst, aTstB, onTru, onV, truthD, aUn, aNil, aCons, aStar, itemsA, datas, aTup, aLst, aOf, aAndT, aOrT, aNotT, aAndV, aOrV, aNotV, aIf, aChain, aCB, onSeq, fLen, fTuple, fList, fInt, fAbs, fAdd, fI, fI0, fSub, fLt, fLe, fGt, fGe, fIs, fNeg, aSl, aRev, aNoPart, aPart, aLc, aYes, aFz, aFzT, frzA, frzV, aSeq, aRng1, aRng2, aZip, aEnumT, aEnumL, agName, agNil, agCons, agTup, wipeA, aCall, aCallK, flatD]); (try simp only [List.map_cons, List.map_nil, List.length_cons, List.length_nil, List.replicate, List.getElem?_cons_zero, List.getElem?_cons_succ, List.set_cons_zero, List.set_cons_succ, List.cons_append, List.nil_append, Option.map_some, Option.map_none, Nat.sub_self, Nat.reduceSub, Nat.reduceAdd, Nat.reduceLeDiff, Nat.reduceMul, Nat.zero_add, true_and, and_true, forall_const, Bool.false_eq_true, false_implies, implies_true, reduceCtorEq, forall_eq', Bool.true_eq_false, if_true, if_false, reduceIte, ite_true, ite_false, Bool.not_true, Bool.not_false, true_implies, List.length_map])
    refine up_of (sp_whole w fun z hz => ?_)
    (try simp only [aFun, startA, toAV, sNext, sSeq, sRet, sIf, sSet, sAsg, sOwn, sLst, sDrop, sFor, sFrz, sApp, sSetIx, sRaise0, sBrk, sCont, sTry, tryX, noEx, sPar2, sPar3, aVal, aVar, aBin, aTst, aTstB, onTru, onV, truthD, aUn, aNil, aCons, aStar, itemsA, datas, aTup, aLst, aOf, aAndT, aOrT, aNotT, aAndV, aOrV, aNotV, aIf, aChain, aCB, onSeq, fLen, fTuple, fList, fInt, fAbs, fAdd, fI, fI0, fSub, fLt, fLe, fGt, fGe, fIs, fNeg, aSl, aRev, aNoPart, aPart, aLc, aYes, aFz, aFzT, frzA, frzV, aSeq, aRng1, aRng2, aZip, aEnumT, aEnumL, agName, agNil, agCons, agTup, wipeA, aCall, aCallK, flatD]); (try simp only [List.map_cons, List.map_nil, List.length_cons, List.length_nil, List.replicate, List.getElem?_cons_zero, List.getElem?_cons_succ, List.set_cons_zero, List.set_cons_succ, List.cons_append, List.nil_append, Option.map_some, Option.map_none, Nat.sub_self, Nat.reduceSub, Nat.reduceAdd, Nat.reduceLeDiff, Nat.reduceMul, Nat.zero_add, true_and, and_true, forall_const, Bool.false_eq_true, false_implies, implies_true, reduceCtorEq, forall_eq', Bool.true_eq_false, if_true, if_false, reduceIte, ite_true, ite_false, Bool.not_true, Bool.not_false, true_implies, List.length_map])
    refine up_of (sp_one (by simp) (by simp) fun q hq => ?_)
    obtain ⟨y, rfl, hy⟩ := near_num hv hz hq
    have hF := near_row hlen h j hj y hy
    have e3 : (line.take j).map pd ++ [pd y] ++ (line.drop (j + 1)).map pd = (line.take j ++ [y] ++ line.drop (j + 1)).map pd := by simp
    have l3 : ((line.take j).map pd).length ≤ 1999999 := by rw [List.length_map]; omega
    have l4 : ((line.take j).map pd ++ [pd y]).length + ((line.drop (j + 1)).map pd).length ≤ 2000000 := by rw [List.length_append, List.length_map, List.length_map]; show _ + 1 + _ ≤ _; omega
    have l5 : [PyData.none].length ≤ 1000 := by decide
    have l6 : (0 : Int) ≤ (line.length : Nat) := by omega
    have l7 : ((line.length : Nat) : Int) ≤ 1000 := by omega
    have l8 : [PyData.none] ≠ [] := by simp
    simp only [aFun, startA, toAV, sNext, sSeq, sRet, sIf, sSet, sAsg, sOwn, sLst, sDrop, sFor, sFrz, sApp, sSetIx, sRaise0, sBrk, sCont, sTry, tryX, noEx, sPar2, sPar3, aVal, aVar, aBin, aTst, aTstB, onTru, onV, truthD, aUn, aNil, aCons, aStar, itemsA, datas, aTup, aLst, aOf, aAndT, aOrT, aNotT, aAndV, aOrV, aNotV, aIf, aChain, aCB, onSeq, fLen, fTuple, fList, fInt, fAbs, fAdd, fI, fI0, fSub, fLt, fLe, fGt, fGe, fIs, fNeg, aSl, aRev, aNoPart, aPart, aLc, aYes, aFz, aFzT, frzA, frzV, aSeq, aRng1, aRng2, aZip, aEnumT, aEnumL, agName, agNil, agCons, agTup, wipeA, aCall, aCallK, flatD, e1, e2, fMul]
    refine ⟨l3, l4, l8, l5, l6, l7, ?_⟩
    rw [e4, e3, fNe_row]
    by_cases hh : line.take j ++ [y] ++ line.drop (j + 1) = List.replicate line.length none
    · rw [decide_eq_true hh]
      refine ⟨fun z => (by cases z), fun _ => ?_⟩
      (try simp only [aFun, startA, toAV, sNext, sSeq, sRet, sIf, sSet, sAsg, sOwn, sLst, sDrop, sFor, sFrz, sApp, sSetIx, sRaise0, sBrk, sCont, sTry, tryX, noEx, sPar2, sPar3, aVal, aVar, aBin, aTst, aTstB, onTru, onV, truthD, aUn, aNil, aCons, aStar, itemsA, datas, aTup, aLst, aOf, aAndT, aOrT, aNotT, aAndV, aOrV, aNotV, aIf, aChain, aCB, onSeq, fLen, fTuple, fList, fInt, fAbs, fAdd, fI, fI0, fSub, fLt, fLe, fGt, fGe, fIs, fNeg, aSl, aRev, aNoPart, aPart, aLc, aYes, aFz, aFzT, frzA, frzV, aSeq, aRng1, aRng2, aZip, aEnumT, aEnumL, agName, agNil, agCons, agTup, wipeA, aCall, aCallK, flatD]); (try simp only [List.map_cons, List.map_nil, List.length_cons, List.length_nil, List.replicate, List.getElem?_cons_zero, List.getElem?_cons_succ, List.set_cons_zero, List.set_cons_succ, List.cons_append, List.nil_append, Option.map_some, Option.map_none, Nat.sub_self, Nat.reduceSub, Nat.reduceAdd, Nat.reduceLeDiff, Nat.reduceMul, Nat.zero_add, true_and, and_true, forall_const, Bool.false_eq_true, false_implies, implies_true, reduceCtorEq, forall_eq', Bool.true_eq_false, if_true, if_false, reduceIte, ite_true, ite_false, Bool.not_true, Bool.not_false, true_implies, List.length_map])
      exact k _ (h.mono (by omega))
    · rw [decide_eq_false hh]
      refine ⟨fun _ => ?_, fun z => by cases z⟩
      (try simp only [aFun, startA, toAV, sNext, sSeq, sRet, sIf, sSet, sAsg, sOwn, sLst, sDrop, sFor, sFrz, sApp, sSetIx, sRaise0, sBrk, sCont, sTry, tryX, noEx, sPar2, sPar3, aVal, aVar, aBin, aTst, aTstB, onTru, onV, truthD, aUn, aNil, aCons, aStar, itemsA, datas, aTup, aLst, aOf, aAndT, aOrT, aNotT, aAndV, aOrV, aNotV, aIf, aChain, aCB, onSeq, fLen, fTuple, fList, fInt, fAbs, fAdd, fI, fI0, fSub, fLt, fLe, fGt, fGe, fIs, fNeg, aSl, aRev, aNoPart, aPart, aLc, aYes, aFz, aFzT, frzA, frzV, aSeq, aRng1, aRng2, aZip, aEnumT, aEnumL, agName, agNil, agCons, agTup, wipeA, aCall, aCallK, flatD]); (try simp only [List.map_cons, List.map_nil, List.length_cons, List.length_nil, List.replicate, List.getElem?_cons_zero, List.getElem?_cons_succ, List.set_cons_zero, List.set_cons_succ, List.cons_append, List.nil_append, Option.map_some, Option.map_none, Nat.sub_self, Nat.reduceSub, Nat.reduceAdd, Nat.reduceLeDiff, Nat.reduceMul, Nat.zero_add, true_and, and_true, forall_const, Bool.false_eq_true, false_implies, implies_true, reduceCtorEq, forall_eq', Bool.true_eq_false, if_true, if_false, reduceIte, ite_true, ite_false, Bool.not_true, Bool.not_false, true_implies, List.length_map])
      exact k _ (hF hh)
  | some v =>
    have hv : v.natAbs ≤ c * BN := h.br v (List.mem_of_getElem? (by rw [ho, eo]))
    simp only [aFun, startA, toAV, sNext, sSeq, sRet, sIf, sSet, sAsg, sOwn, sLst, sDrop, sFor, sFrz, sApp, sSetIx, sRaise0, sBrk, sCont, sTry, tryX, noEx, sPar2, sPar3, aVal, aVar, aBin, aTst, aTstB, onTru, onV, truthD, aUn, aNil, aCons, aStar, itemsA, datas, aTup, aLst, aOf, aAndT, aOrT, aNotT, aAndV, aOrV, aNotV, aIf, aChain, aCB, onSeq, fLen, fTuple, fList, fInt, fAbs, fAdd, fI, fI0, fSub, fLt, fLe, fGt, fGe, fIs, fNeg, aSl, aRev, aNoPart, aPart, aLc, aYes, aFz, aFzT, frzA, frzV, aSeq, aRng1, aRng2, aZip, aEnumT, aEnumL, agName, agNil, agCons, agTup, wipeA, aCall, aCallK, flatD, List.map_cons, List.map_nil, List.length_cons, List.length_nil, List.replicate, List.getElem?_cons_zero, List.getElem?_cons_succ, List.set_cons_zero, List.set_cons_succ, List.cons_append, List.nil_append, Option.map_some, Option.map_none, Nat.sub_self, Nat.reduceSub, Nat.reduceAdd, Nat.reduceLeDiff, Nat.reduceMul, Nat.zero_add, true_and, and_true, forall_const, Bool.false_eq_true, false_implies, implies_true, reduceCtorEq, forall_eq', Bool.true_eq_false, if_true, if_false, reduceIte, ite_true, ite_false, Bool.not_true, Bool.not_false, true_implies, List.length_map, pds, isNone]
    rw [eo] at ho
    rw [fIx_tup ho]
    simp only [pds]
    (try simp only [aFun, startA, toAV, sNext, sSeq, sRet, sIf, sSet, sAsg, sOwn, sLst, sDrop, sFor, sFrz, sApp, sSetIx, sRaise0, sBrk, sCont, sTry, tryX, noEx, sPar2, sPar3, aVal, aVar, aBin, aTst, aTstB, onTru, onV, truthD, aUn, aNil, aCons, aStar, itemsA, datas, aTup, aLst, aOf, aAndT, aOrT, aNotT, aAndV, aOrV, aNotV, aIf, aChain, aCB, onSeq, fLen, fTuple, fList, fInt, fAbs, fAdd, fI, fI0, fSub, fLt, fLe, fGt, fGe, fIs, fNeg, aSl, aRev, aNoPart, aPart, aLc, aYes, aFz, aFzT, frzA, frzV, aSeq, aRng1, aRng2, aZip, aEnumT, aEnumL, agName, agNil, agCons, agTup, wipeA, aCall, aCallK, flatD]); (try simp only [List.map_cons, List.map_nil, List.length_cons, List.length_nil, List.replicate, List.getElem?_cons_zero, List.getElem?_cons_succ, List.set_cons_zero, List.set_cons_succ, List.cons_append, List.nil_append, Option.map_some, Option.map_none, Nat.sub_self, Nat.reduceSub, Nat.reduceAdd, Nat.reduceLeDiff, Nat.reduceMul, Nat.zero_add, true_and, and_true, forall_const, Bool.false_eq_true, false_implies, implies_true, reduceCtorEq, forall_eq', Bool.true_eq_false, if_true, if_false, reduceIte, ite_true, ite_false, Bool.not_true, Bool.not_false, true_implies, List.length_map])
    refine up_of (sp_whole w fun z hz => ?_)
    (try simp only [aFun, startA, toAV, sNext, sSeq, sRet, sIf, sSet, sAsg, sOwn, sLst, sDrop, sFor, sFrz, sApp, sSetIx, sRaise0, sBrk, sCont, sTry, tryX, noEx, sPar2, sPar3, aVal, aVar, aBin, aTst, aTstB, onTru, onV, truthD, aUn, aNil, aCons, aStar, itemsA, datas, aTup, aLst, aOf, aAndT, aOrT, aNotT, aAndV, aOrV, aNotV, aIf, aChain, aCB, onSeq, fLen, fTuple, fList, fInt, fAbs, fAdd, fI, fI0, fSub, fLt, fLe, fGt, fGe, fIs, fNeg, aSl, aRev, aNoPart, aPart, aLc, aYes, aFz, aFzT, frzA, frzV, aSeq, aRng1, aRng2, aZip, aEnumT, aEnumL, agName, agNil, agCons, agTup, wipeA, aCall, aCallK, flatD]); (try simp only [List.map_cons, List.map_nil, List.length_cons, List.length_nil, List.replicate, List.getElem?_cons_zero, List.getElem?_cons_succ, List.set_cons_zero, List.set_cons_succ, List.cons_append, List.nil_append, Option.map_some, Option.map_none, Nat.sub_self, Nat.reduceSub, Nat.reduceAdd, Nat.reduceLeDiff, Nat.reduceMul, Nat.zero_add, true_and, and_true, forall_const, Bool.false_eq_true, false_implies, implies_true, reduceCtorEq, forall_eq', Bool.true_eq_false, if_true, if_false, reduceIte, ite_true, ite_false, Bool.not_true, Bool.not_false, true_implies, List.length_map])
    refine up_of (sp_one (by simp) (by simp) fun q hq => ?_)
    obtain ⟨y, rfl, hy⟩ := near_num hv hz hq
    have hF := near_row hlen h j hj y hy
    have e3 : (line.take j).map pd ++ [pd y] ++ (line.drop (j + 1)).map pd = (line.take j ++ [y] ++ line.drop (j + 1)).map pd := by simp
    have l3 : ((line.take j).map pd).length ≤ 1999999 := by rw [List.length_map]; omega
    have l4 : ((line.take j).map pd ++ [pd y]).length + ((line.drop (j + 1)).map pd).length ≤ 2000000 := by rw [List.length_append, List.length_map, List.length_map]; show _ + 1 + _ ≤ _; omega
    have l5 : [PyData.none].length ≤ 1000 := by decide
    have l6 : (0 : Int) ≤ (line.length : Nat) := by omega
    have l7 : ((line.length : Nat) : Int) ≤ 1000 := by omega
    have l8 : [PyData.none] ≠ [] := by simp
    simp only [aFun, startA, toAV, sNext, sSeq, sRet, sIf, sSet, sAsg, sOwn, sLst, sDrop, sFor, sFrz, sApp, sSetIx, sRaise0, sBrk, sCont, sTry, tryX, noEx, sPar2, sPar3, aVal, aVar, aBin, aTst, aTstB, onTru, onV, truthD, aUn, aNil, aCons, aStar, itemsA, datas, aTup, aLst, aOf, aAndT, aOrT, aNotT, aAndV, aOrV, aNotV, aIf, aChain, aCB, onSeq, fLen, fTuple, fList, fInt, fAbs, fAdd, fI, fI0, fSub, fLt, fLe, fGt, fGe, fIs, fNeg, aSl, aRev, aNoPart, aPart, aLc, aYes, aFz, aFzT, frzA, frzV, aSeq, aRng1, aRng2, aZip, aEnumT, aEnumL, agName, agNil, agCons, agTup, wipeA, aCall, aCallK, flatD, e1, e2, fMul]
    refine ⟨l3, l4, l8, l5, l6, l7, ?_⟩
    rw [e4, e3, fNe_row]
    by_cases hh : line.take j ++ [y] ++ line.drop (j + 1) = List.replicate line.length none
    · rw [decide_eq_true hh]
      refine ⟨fun z => (by cases z), fun _ => ?_⟩
      (try simp only [aFun, startA, toAV, sNext, sSeq, sRet, sIf, sSet, sAsg, sOwn, sLst, sDrop, sFor, sFrz, sApp, sSetIx, sRaise0, sBrk, sCont, sTry, tryX, noEx, sPar2, sPar3, aVal, aVar, aBin, aTst, aTstB, onTru, onV, truthD, aUn, aNil, aCons, aStar, itemsA, datas, aTup, aLst, aOf, aAndT, aOrT, aNotT, aAndV, aOrV, aNotV, aIf, aChain, aCB, onSeq, fLen, fTuple, fList, fInt, fAbs, fAdd, fI, fI0, fSub, fLt, fLe, fGt, fGe, fIs, fNeg, aSl, aRev, aNoPart, aPart, aLc, aYes, aFz, aFzT, frzA, frzV, aSeq, aRng1, aRng2, aZip, aEnumT, aEnumL, agName, agNil, agCons, agTup, wipeA, aCall, aCallK, flatD]); (try simp only [List.map_cons, List.map_nil, List.length_cons, List.length_nil, List.replicate, List.getElem?_cons_zero, List.getElem?_cons_succ, List.set_cons_zero, List.set_cons_succ, List.cons_append, List.nil_append, Option.map_some, Option.map_none, Nat.sub_self, Nat.reduceSub, Nat.reduceAdd, Nat.reduceLeDiff, Nat.reduceMul, Nat.zero_add, true_and, and_true, forall_const, Bool.false_eq_true, false_implies, implies_true, reduceCtorEq, forall_eq', Bool.true_eq_false, if_true, if_false, reduceIte, ite_true, ite_false, Bool.not_true, Bool.not_false, true_implies, List.length_map])
      exact k _ (h.mono (by omega))
    · rw [decide_eq_false hh]
      refine ⟨fun _ => ?_, fun z => by cases z⟩
      (try simp only [aFun, startA, toAV, sNext, sSeq, sRet, sIf, sSet, sAsg, sOwn, sLst, sDrop, sFor, sFrz, sApp, sSetIx, sRaise0, sBrk, sCont, sTry, tryX, noEx, sPar2, sPar3, aVal, aVar, aBin, aTst, aTstB, onTru, onV, truthD, aUn, aNil, aCons, aStar, itemsA, datas, aTup, aLst, aOf, aAndT, aOrT, aNotT, aAndV, aOrV, aNotV, aIf, aChain, aCB, onSeq, fLen, fTuple, fList, fInt, fAbs, fAdd, fI, fI0, fSub, fLt, fLe, fGt, fGe, fIs, fNeg, aSl, aRev, aNoPart, aPart, aLc, aYes, aFz, aFzT, frzA, frzV, aSeq, aRng1, aRng2, aZip, aEnumT, aEnumL, agName, agNil, agCons, agTup, wipeA, aCall, aCallK, flatD]); (try simp only [List.map_cons, List.map_nil, List.length_cons, List.length_nil, List.replicate, List.getElem?_cons_zero, List.getElem?_cons_succ, List.set_cons_zero, List.set_cons_succ, List.cons_append, List.nil_append, Option.map_some, Option.map_none, Nat.sub_self, Nat.reduceSub, Nat.reduceAdd, Nat.reduceLeDiff, Nat.reduceMul, Nat.zero_add, true_and, and_true, forall_const, Bool.false_eq_true, false_implies, implies_true, reduceCtorEq, forall_eq', Bool.true_eq_false, if_true, if_false, reduceIte, ite_true, ite_false, Bool.not_true, Bool.not_false, true_implies, List.length_map])
      exact k _ (hF hh)
end K8

namespace K8
open PySem L2 RW RZ PySem.RW U AL
theorem shw_two {b1 b2 t : Nat} {q1 q2 : PyData} (h1 : Shw b1 t q1) (h2 : Shw b2 t q2) : Shw (b1 + b2 + 30) (t + 1) (.list [q1, q2]) := by
  refine ⟨?_, ?_, ?_, ?_⟩
  · simp [wide, wideAll, h1.wd, h2.wd]
  · simp [noDict, noDicts, h1.nd, h2.nd]
  · have := h1.sz; have := h2.sz; simp only [szw, szws]; omega
  · have := h1.dp; have := h2.dp; simp only [PyData.depth, PyData.depthAll]; omega
theorem made_congr {L M : List Row} {line : Row} (h : ∀ r, r ∈ L ↔ r ∈ M) : mb L line = mb M line := by
  rw [Bool.eq_iff_iff, mb_iff, mb_iff]
  constructor
  · intro hm p t ht
    obtain ⟨own, ho, hr⟩ := hm p t ht
    exact ⟨own, (h own).mp ho, hr⟩
  · intro hm p t ht
    obtain ⟨own, ho, hr⟩ := hm p t ht
    exact ⟨own, (h own).mpr ho, hr⟩
theorem mb_plus {rows : List Row} {line : Row} (c : Int) : mb rows (plus line c) = mb rows line := by
  rw [Bool.eq_iff_iff, mb_iff, mb_iff]; exact made_plus c
theorem mb_far {L : List Row} {line : Row} {c : Int} (h : plus line c ∈ L) : mb L line = true :=
  mb_iff.mpr fun p t ht => ⟨plus line c, h, t + c, t, plus_at.mpr (by rw [ht]; congr 2; omega), ht, fun q l hq => ⟨l - c, plus_at.mp hq, by omega⟩⟩
theorem in_up {L : List Row} {line : Row} (hl : ∀ r ∈ L, r.length = line.length) (hw : line.length ≤ 4) (hi : ∃ (p : Nat) (a : Int), line[p]? = some (some a)) {Q : PyData → Prop} {E : AXK} : AFun.up A_is_in [.v (.tuple [.int (line.length : Nat), rowsD L]), .v (rowD line)] Q E ↔ Q (.bool (mb L line)) := by
  rw [up_iffX fun Q E => sp_in line.length L line hl (by omega) Q E, if_pos rfl, mo_mb hl hi]
theorem plus_int {line : Row} {c : Int} (hi : ∃ (p : Nat) (a : Int), line[p]? = some (some a)) : ∃ (p : Nat) (a : Int), (plus line c)[p]? = some (some a) := by
  obtain ⟨p, a, h⟩ := hi
  exact ⟨p, a + c, plus_at.mpr (by rw [h]; congr 2; omega)⟩
theorem sp_right {a b : Int} {n : Nat} {rows : List Row} {line : Row} (w : Wd a b) (n0 : 1 ≤ n) (n1 : n ≤ 4) (hr : ∀ r ∈ rows, Rw n 3 r) (hk : rows.length ≤ 10) (h : Rw n 9 line) {Q : PyData → Prop} {E : AXK} (k : Q (.bool true)) : A_law_is_right [.urn, .v (rowsD rows), .v (rowD line), .v (wdD a b)] Q E := by
  have hlen := h.len
  simp only [A_law_is_right, S_law_is_right]
  (simp only [aFun, startA, toAV, sNext, sSeq, sRet, sIf, sSet, sAsg, sOwn, sLst, sDrop, sFor, sFrz, sApp, sSetIx, sRaise0, sBrk, sCont, sTry, tryX, noEx, sPar2, sPar3, aVal, aVar, aBin, aTst, aTstB, onTru, onV, truthD, aUn, aNil, aCons, aStar, itemsA, datas, aTup, aLst, aOf, aAndT, aOrT, aNotT, aAndV, aOrV, aNotV, aIf, aChain, aCB, onSeq, fLen, fTuple, fList, fInt, fAbs, fAdd, fI, fI0, fSub, fLt, fLe, fGt, fGe, fIs, fNeg, aSl, aRev, aNoPart, aPart, aLc, aYes, aFz, aFzT, frzA, frzV, aSeq, aRng1, aRng2, aZip, aEnumT, aEnumL, agName, agNil, agCons, agTup, wipeA, aCall, aCallK, flatD]; (try simp only [List.map_cons, List.map_nil, List.length_cons, List.length_nil, List.replicate, List.getElem?_cons_zero, List.getElem?_cons_succ, List.set_cons_zero, List.set_cons_succ, List.cons_append, List.nil_append, Option.map_some, Option.map_none, Nat.sub_self, Nat.reduceSub, Nat.reduceAdd, Nat.reduceLeDiff, Nat.reduceMul, Nat.zero_add, true_and, and_true, forall_const, Bool.false_eq_true, false_implies, implies_true, reduceCtorEq, forall_eq', Bool.true_eq_false, if_true, if_false, reduceIte, ite_true, ite_false, Bool.not_true, Bool.not_false, true_implies, List.length_map]); (try simp only [aFun, startA, toAV, sNext, sSeq, sRet, sIf, sSet, sAsg, sOwn, sLst, sDrop, sFor, sFrz, sApp, sSetIx, sRaise0, sBrk, sCont, sTry, tryX, noEx, sPar2, sPar3, aVal, aVar, aBin, aTst, aTstB, onTru, onV, truthD, aUn, aNil, aCons, aStar, itemsA, datas, aTup, aLst, aOf, aAndT, aOrT, aNotT, aAndV, aOrV, aNotV, aIf, aChain, aCB, onSeq, fLen, fTuple, fList, fInt, fAbs, fAdd, fI, fI0, fSub, fLt, fLe, fGt, fGe, fIs, fNeg, aSl, aRev, aNoPart, aPart, aLc, aYes, aFz, aFzT, frzA, frzV, aSeq, aRng1, aRng2, aZip, aEnumT, aEnumL, agName, agNil, agCons, agTup, wipeA, aCall, aCallK, flatD]); (try simp only [List.map_cons, List.map_nil, List.length_cons, List.length_nil, List.replicate, List.getElem?_cons_zero, List.getElem?_cons_succ, List.set_cons_zero, List.set_cons_succ, List.cons_append, List.nil_append, Option.map_some, Option.map_none, Nat.sub_self, Nat.reduceSub, Nat.reduceAdd, Nat.reduceLeDiff, Nat.reduceMul, Nat.zero_add, true_and, and_true, forall_const, Bool.false_eq_true, false_implies, implies_true, reduceCtorEq, forall_eq', Bool.true_eq_false, if_true, if_false, reduceIte, ite_true, ite_false, Bool.not_true, Bool.not_false, true_implies, List.length_map]))
  have hlr : ∀ r ∈ rows, r.length = line.length := fun r z => by rw [(hr r z).len, hlen]
  have hint := h.int
  rw [up_iff (sp_lmade rows line hlr (by omega) (by omega))]
  refine up_take (by omega) (by omega) fun j j0 j1 => ?_
  obtain ⟨j, rfl⟩ : ∃ i : Nat, j = (i : Int) := ⟨j.toNat, by omega⟩
  simp only [cutD_lo, cutD_hi, ← List.map_take, ← List.map_drop, ← List.map_append]
  refine ⟨by simp; omega, ?_⟩
  have s1 : Shw 520366 2 (rowsD rows) := shw_rows (n := 4) (k := 10) (fun r z => ⟨(hr r z).br, by rw [(hr r z).len]; exact n1⟩) (by omega) hk
  have s2 : Shw 520366 2 (rowD line) := (shw_row (n := 4) h.br (by omega) (by omega)).mono (by omega) (by omega)
  have s3 : Shw 1040762 3 (.list [rowsD rows, rowD line]) := shw_two s1 s2
  rw [fRepr_of (shOk_of s3 (by omega) (by omega) ⟨_, .inl rfl⟩)]
  try simp only [aFun, startA, toAV, sNext, sSeq, sRet, sIf, sSet, sAsg, sOwn, sLst, sDrop, sFor, sFrz, sApp, sSetIx, sRaise0, sBrk, sCont, sTry, tryX, noEx, sPar2, sPar3, aVal, aVar, aBin, aTst, aTstB, onTru, onV, truthD, aUn, aNil, aCons, aStar, itemsA, datas, aTup, aLst, aOf, aAndT, aOrT, aNotT, aAndV, aOrV, aNotV, aIf, aChain, aCB, onSeq, fLen, fTuple, fList, fInt, fAbs, fAdd, fI, fI0, fSub, fLt, fLe, fGt, fGe, fIs, fNeg, aSl, aRev, aNoPart, aPart, aLc, aYes, aFz, aFzT, frzA, frzV, aSeq, aRng1, aRng2, aZip, aEnumT, aEnumL, agName, agNil, agCons, agTup, wipeA, aCall, aCallK, flatD, List.map_cons, List.map_nil, List.length_cons, List.length_nil, List.replicate, List.getElem?_cons_zero, List.getElem?_cons_succ, List.set_cons_zero, List.set_cons_succ, List.cons_append, List.nil_append, Option.map_some, Option.map_none, Nat.sub_self, Nat.reduceSub, Nat.reduceAdd, Nat.reduceLeDiff, Nat.reduceMul, Nat.zero_add, true_and, and_true, forall_const, Bool.false_eq_true, false_implies, implies_true, reduceCtorEq, forall_eq', Bool.true_eq_false, if_true, if_false, reduceIte, ite_true, ite_false, Bool.not_true, Bool.not_false, true_implies, List.length_map]
  refine up_of (sp_whole w fun c hc => ?_)
  try simp only [aFun, startA, toAV, sNext, sSeq, sRet, sIf, sSet, sAsg, sOwn, sLst, sDrop, sFor, sFrz, sApp, sSetIx, sRaise0, sBrk, sCont, sTry, tryX, noEx, sPar2, sPar3, aVal, aVar, aBin, aTst, aTstB, onTru, onV, truthD, aUn, aNil, aCons, aStar, itemsA, datas, aTup, aLst, aOf, aAndT, aOrT, aNotT, aAndV, aOrV, aNotV, aIf, aChain, aCB, onSeq, fLen, fTuple, fList, fInt, fAbs, fAdd, fI, fI0, fSub, fLt, fLe, fGt, fGe, fIs, fNeg, aSl, aRev, aNoPart, aPart, aLc, aYes, aFz, aFzT, frzA, frzV, aSeq, aRng1, aRng2, aZip, aEnumT, aEnumL, agName, agNil, agCons, agTup, wipeA, aCall, aCallK, flatD, List.map_cons, List.map_nil, List.length_cons, List.length_nil, List.replicate, List.getElem?_cons_zero, List.getElem?_cons_succ, List.set_cons_zero, List.set_cons_succ, List.cons_append, List.nil_append, Option.map_some, Option.map_none, Nat.sub_self, Nat.reduceSub, Nat.reduceAdd, Nat.reduceLeDiff, Nat.reduceMul, Nat.zero_add, true_and, and_true, forall_const, Bool.false_eq_true, false_implies, implies_true, reduceCtorEq, forall_eq', Bool.true_eq_false, if_true, if_false, reduceIte, ite_true, ite_false, Bool.not_true, Bool.not_false, true_implies, List.length_map]
  rw [up_iff (sp_plus line c (by omega))]
  have pl : (plus line c).length = line.length := plus_len ..
  rw [in_up hlr (by omega) hint, show (line.length : Nat) = (plus line c).length from pl.symm, in_up (by rw [pl]; exact hlr) (by rw [pl]; omega) (plus_int hint)]
  simp only [g2s]
  rw [pl]
  have hA : ∀ r ∈ rows.drop j ++ rows.take j, r.length = line.length := fun r z => hlr r ((List.mem_append.mp z).elim List.mem_of_mem_drop List.mem_of_mem_take)
  have mA : ∀ r, r ∈ rows.drop j ++ rows.take j ↔ r ∈ rows := fun r => by
    rw [List.mem_append, Or.comm, ← List.mem_append, List.take_append_drop]
  have mB : ∀ r, r ∈ rows.drop j ++ rows.take j ++ rows.take j ↔ r ∈ rows := fun r => by
    rw [List.mem_append, mA]
    exact ⟨fun z => z.elim id List.mem_of_mem_take, .inl⟩
  have lA : (rows.drop j ++ rows.take j).length ≤ 20 := by simp; omega
  have lB : (rows.take j).length ≤ 10 := by simp; omega
  rw [in_up hA (by omega) hint, made_congr mA]
  refine ⟨by omega, ?_⟩
  rw [← List.map_append, in_up (fun r z => hlr r ((mB r).mp z)) (by omega) hint, made_congr mB, in_up hlr (by omega) hint]
  refine ⟨by omega, ?_⟩
  rw [show List.map rowD (rows.drop j ++ rows.take j) ++ [rowD (plus line c)] = List.map rowD (rows.drop j ++ rows.take j ++ [plus line c]) from by simp,
    in_up (fun r z => (List.mem_append.mp z).elim (hA r) (fun z => by rw [List.mem_singleton.mp z, pl])) (by omega) hint, mb_far (L := rows.drop j ++ rows.take j ++ [plus line c]) (line := line) (c := c) (by simp)]
  rw [show PyData.tuple [rowD (plus line c)] = rowsD [plus line c] from rfl,
    in_up (fun r z => by rw [List.mem_singleton.mp z, pl]) (by omega) hint, mb_far (L := [plus line c]) (line := line) (c := c) (by simp), mb_plus (rows := rows) (line := line) c,
    fRepr_of (shOk_of s3 (by omega) (by omega) ⟨_, .inl rfl⟩)]
  try simp only [aFun, startA, toAV, sNext, sSeq, sRet, sIf, sSet, sAsg, sOwn, sLst, sDrop, sFor, sFrz, sApp, sSetIx, sRaise0, sBrk, sCont, sTry, tryX, noEx, sPar2, sPar3, aVal, aVar, aBin, aTst, aTstB, onTru, onV, truthD, aUn, aNil, aCons, aStar, itemsA, datas, aTup, aLst, aOf, aAndT, aOrT, aNotT, aAndV, aOrV, aNotV, aIf, aChain, aCB, onSeq, fLen, fTuple, fList, fInt, fAbs, fAdd, fI, fI0, fSub, fLt, fLe, fGt, fGe, fIs, fNeg, aSl, aRev, aNoPart, aPart, aLc, aYes, aFz, aFzT, frzA, frzV, aSeq, aRng1, aRng2, aZip, aEnumT, aEnumL, agName, agNil, agCons, agTup, wipeA, aCall, aCallK, flatD, List.map_cons, List.map_nil, List.length_cons, List.length_nil, List.replicate, List.getElem?_cons_zero, List.getElem?_cons_succ, List.set_cons_zero, List.set_cons_succ, List.cons_append, List.nil_append, Option.map_some, Option.map_none, Nat.sub_self, Nat.reduceSub, Nat.reduceAdd, Nat.reduceLeDiff, Nat.reduceMul, Nat.zero_add, true_and, and_true, forall_const, Bool.false_eq_true, false_implies, implies_true, reduceCtorEq, forall_eq', Bool.true_eq_false, if_true, if_false, reduceIte, ite_true, ite_false, Bool.not_true, Bool.not_false, true_implies, List.length_map]
  have s4 := shw_text s3 (by simp only [noStr, noStrs, Bool.and_true]; rw [show noStrs (rows.map rowD) = true from noStrs_map ns_row, show noStrs (line.map pd) = true from noStrs_map ns_pd]; rfl)
  have s6 : ∀ l : List Bool, l.length ≤ 7 → Shw 91048 1 (.list (l.map .bool)) := fun l hl => shw_list (n := 7) (b := 13000) (t := 0) (fun q hq => by
    obtain ⟨c, _, rfl⟩ := List.mem_map.mp hq
    exact shw_bool c) (by rw [List.length_map]; exact hl)
  have s7 := shw_two (s6 [mb rows line, mb rows line, mb rows line, mb rows line, mb rows line, true, true] (by simp)) (s4.mono (t2 := 1) (Nat.le_refl _) (by omega))
  simp only [List.map_cons, List.map_nil] at s7
  rw [fRepr_of (shOk_of s7 (by omega) (by omega) ⟨_, .inl rfl⟩)]
  simp only [fMul]
  refine ⟨by show 1 * 5 ≤ 2000000; omega, by omega, by omega, ?_⟩
  rw [show (List.replicate (Int.toNat 5) [PyData.bool (mb rows line)]).flatten = [.bool (mb rows line), .bool (mb rows line), .bool (mb rows line), .bool (mb rows line), .bool (mb rows line)] from rfl]
  simp only [aFun, startA, toAV, sNext, sSeq, sRet, sIf, sSet, sAsg, sOwn, sLst, sDrop, sFor, sFrz, sApp, sSetIx, sRaise0, sBrk, sCont, sTry, tryX, noEx, sPar2, sPar3, aVal, aVar, aBin, aTst, aTstB, onTru, onV, truthD, aUn, aNil, aCons, aStar, itemsA, datas, aTup, aLst, aOf, aAndT, aOrT, aNotT, aAndV, aOrV, aNotV, aIf, aChain, aCB, onSeq, fLen, fTuple, fList, fInt, fAbs, fAdd, fI, fI0, fSub, fLt, fLe, fGt, fGe, fIs, fNeg, aSl, aRev, aNoPart, aPart, aLc, aYes, aFz, aFzT, frzA, frzV, aSeq, aRng1, aRng2, aZip, aEnumT, aEnumL, agName, agNil, agCons, agTup, wipeA, aCall, aCallK, flatD, List.map_cons, List.map_nil, List.length_cons, List.length_nil, List.replicate, List.getElem?_cons_zero, List.getElem?_cons_succ, List.set_cons_zero, List.set_cons_succ, List.cons_append, List.nil_append, Option.map_some, Option.map_none, Nat.sub_self, Nat.reduceSub, Nat.reduceAdd, Nat.reduceLeDiff, Nat.reduceMul, Nat.zero_add, true_and, and_true, forall_const, Bool.false_eq_true, false_implies, implies_true, reduceCtorEq, forall_eq', Bool.true_eq_false, if_true, if_false, reduceIte, ite_true, ite_false, Bool.not_true, Bool.not_false, true_implies, List.length_map]
  try simp only [aFun, startA, toAV, sNext, sSeq, sRet, sIf, sSet, sAsg, sOwn, sLst, sDrop, sFor, sFrz, sApp, sSetIx, sRaise0, sBrk, sCont, sTry, tryX, noEx, sPar2, sPar3, aVal, aVar, aBin, aTst, aTstB, onTru, onV, truthD, aUn, aNil, aCons, aStar, itemsA, datas, aTup, aLst, aOf, aAndT, aOrT, aNotT, aAndV, aOrV, aNotV, aIf, aChain, aCB, onSeq, fLen, fTuple, fList, fInt, fAbs, fAdd, fI, fI0, fSub, fLt, fLe, fGt, fGe, fIs, fNeg, aSl, aRev, aNoPart, aPart, aLc, aYes, aFz, aFzT, frzA, frzV, aSeq, aRng1, aRng2, aZip, aEnumT, aEnumL, agName, agNil, agCons, agTup, wipeA, aCall, aCallK, flatD, List.map_cons, List.map_nil, List.length_cons, List.length_nil, List.replicate, List.getElem?_cons_zero, List.getElem?_cons_succ, List.set_cons_zero, List.set_cons_succ, List.cons_append, List.nil_append, Option.map_some, Option.map_none, Nat.sub_self, Nat.reduceSub, Nat.reduceAdd, Nat.reduceLeDiff, Nat.reduceMul, Nat.zero_add, true_and, and_true, forall_const, Bool.false_eq_true, false_implies, implies_true, reduceCtorEq, forall_eq', Bool.true_eq_false, if_true, if_false, reduceIte, ite_true, ite_false, Bool.not_true, Bool.not_false, true_implies, List.length_map]
  rw [fRepr_of (shOk_of s7 (by omega) (by omega) ⟨_, .inl rfl⟩), fEq_str, beq_self_eq_true]
  exact k
end K8

namespace K8
open PySem L2 RW RZ PySem.RW U AL
theorem sp_unfit {n : Nat} {rows : List Row} {line : Row} (hr : ∀ r ∈ rows, r.length = n) (hw : line.length ≤ 4) (hn : n ≠ line.length) {Q : PyData → Prop} {E : AXK} (k : Q (.bool true)) : A_law_is_unfit [.v (rowsD rows), .v (.int (n : Nat)), .v (rowD line)] Q E := by
  simp only [A_law_is_unfit, S_law_is_unfit]
  (simp only [aFun, startA, toAV, sNext, sSeq, sRet, sIf, sSet, sAsg, sOwn, sLst, sDrop, sFor, sFrz, sApp, sSetIx, sRaise0, sBrk, sCont, sTry, tryX, noEx, sPar2, sPar3, aVal, aVar, aBin, aTst, aTstB, onTru, onV, truthD, aUn, aNil, aCons, aStar, itemsA, datas, aTup, aLst, aOf, aAndT, aOrT, aNotT, aAndV, aOrV, aNotV, aIf, aChain, aCB, onSeq, fLen, fTuple, fList, fInt, fAbs, fAdd, fI, fI0, fSub, fLt, fLe, fGt, fGe, fIs, fNeg, aSl, aRev, aNoPart, aPart, aLc, aYes, aFz, aFzT, frzA, frzV, aSeq, aRng1, aRng2, aZip, aEnumT, aEnumL, agName, agNil, agCons, agTup, wipeA, aCall, aCallK, flatD]; (try simp only [List.map_cons, List.map_nil, List.length_cons, List.length_nil, List.replicate, List.getElem?_cons_zero, List.getElem?_cons_succ, List.set_cons_zero, List.set_cons_succ, List.cons_append, List.nil_append, Option.map_some, Option.map_none, Nat.sub_self, Nat.reduceSub, Nat.reduceAdd, Nat.reduceLeDiff, Nat.reduceMul, Nat.zero_add, true_and, and_true, forall_const, Bool.false_eq_true, false_implies, implies_true, reduceCtorEq, forall_eq', Bool.true_eq_false, if_true, if_false, reduceIte, ite_true, ite_false, Bool.not_true, Bool.not_false, true_implies, List.length_map]); (try simp only [aFun, startA, toAV, sNext, sSeq, sRet, sIf, sSet, sAsg, sOwn, sLst, sDrop, sFor, sFrz, sApp, sSetIx, sRaise0, sBrk, sCont, sTry, tryX, noEx, sPar2, sPar3, aVal, aVar, aBin, aTst, aTstB, onTru, onV, truthD, aUn, aNil, aCons, aStar, itemsA, datas, aTup, aLst, aOf, aAndT, aOrT, aNotT, aAndV, aOrV, aNotV, aIf, aChain, aCB, onSeq, fLen, fTuple, fList, fInt, fAbs, fAdd, fI, fI0, fSub, fLt, fLe, fGt, fGe, fIs, fNeg, aSl, aRev, aNoPart, aPart, aLc, aYes, aFz, aFzT, frzA, frzV, aSeq, aRng1, aRng2, aZip, aEnumT, aEnumL, agName, agNil, agCons, agTup, wipeA, aCall, aCallK, flatD]); (try simp only [List.map_cons, List.map_nil, List.length_cons, List.length_nil, List.replicate, List.getElem?_cons_zero, List.getElem?_cons_succ, List.set_cons_zero, List.set_cons_succ, List.cons_append, List.nil_append, Option.map_some, Option.map_none, Nat.sub_self, Nat.reduceSub, Nat.reduceAdd, Nat.reduceLeDiff, Nat.reduceMul, Nat.zero_add, true_and, and_true, forall_const, Bool.false_eq_true, false_implies, implies_true, reduceCtorEq, forall_eq', Bool.true_eq_false, if_true, if_false, reduceIte, ite_true, ite_false, Bool.not_true, Bool.not_false, true_implies, List.length_map]))
  rw [up_iffX fun Q E => sp_in n rows line hr (by omega) Q E, if_neg hn]
  simp only [tryX, cs_Unfit, List.lookup, noEx]
  exact k
/-! ### many rows none of which the others make -/
def mrow (y : Int) (k : Nat) : Row := [some 0, some (y * k), some (y * k * k)]
structure Mn (y : Int) (m : Nat) (R : List Row) : Prop where
  len : R.length = m
  at' : ∀ k : Nat, k < m → ∃ c : Int, 0 ≤ c ∧ c ≤ 8 ∧ R[k]? = some (plus (mrow y k) c)
theorem plus_mrow (y : Int) (k : Nat) (c : Int) : plus (mrow y k) c = [some (0 + c), some (y * k + c), some (y * k * k + c)] := rfl
theorem mn_far {y : Int} (y1 : 1 ≤ y) {k a : Nat} (hka : k ≠ a) {c e : Int} : ¬ Rch (plus (mrow y k) c) (plus (mrow y a) e) (if a = 0 then 0 else 1) := by
  rw [plus_mrow, plus_mrow]
  rintro ⟨s, t, h1, h2, h3⟩
  by_cases ha : a = 0
  · subst ha
    rw [if_pos rfl] at h1 h2
    simp only [List.getElem?_cons_zero, Option.some.injEq] at h1 h2
    obtain ⟨t', e1, e2⟩ := h3 1 _ rfl
    simp only [List.getElem?_cons_succ, List.getElem?_cons_zero, Option.some.injEq] at e1
    have : 1 ≤ (k : Int) := by omega
    have : y * 1 ≤ y * (k : Int) := Int.mul_le_mul_of_nonneg_left this (by omega)
    have e0 : y * ((0 : Nat) : Int) = 0 := by simp
    omega
  · rw [if_neg ha] at h1 h2
    simp only [List.getElem?_cons_succ, List.getElem?_cons_zero, Option.some.injEq] at h1 h2
    obtain ⟨t', e1, e2⟩ := h3 0 _ rfl
    obtain ⟨t2, e3, e4⟩ := h3 2 _ rfl
    simp only [List.getElem?_cons_succ, List.getElem?_cons_zero, Option.some.injEq] at e1 e3
    have f1 : y * (a : Int) ≤ y * (k : Int) := by omega
    have f2 : (a : Int) ≤ k := Int.le_of_mul_le_mul_left f1 (by omega)
    have f3 : (a : Int) + 1 ≤ k := by omega
    have f4 : y * k * k - y * k ≤ y * a * a - y * a := by omega
    have g1 : y * (k : Int) * k - y * k = y * (k * (k - 1)) := by rw [Int.mul_sub, Int.mul_sub, Int.mul_one, ← Int.mul_assoc]
    have g2 : y * (a : Int) * a - y * a = y * (a * (a - 1)) := by rw [Int.mul_sub, Int.mul_sub, Int.mul_one, ← Int.mul_assoc]
    rw [g1, g2] at f4
    have f5 : (k : Int) * (k - 1) ≤ a * (a - 1) := Int.le_of_mul_le_mul_left f4 (by omega)
    have f6 : ((a : Int) + 1) * a ≤ k * (k - 1) := Int.mul_le_mul f3 (by omega) (by omega) (by omega)
    rw [Int.add_mul, Int.one_mul] at f6
    have g3 : (a : Int) * (a - 1) = a * a - a := by rw [Int.mul_sub, Int.mul_one]
    rw [g3] at f5
    omega
theorem mn_len {y : Int} {m : Nat} {R : List Row} (h : Mn y m R) {r : Row} (hr : r ∈ R) : ∃ (k : Nat) (c : Int), k < m ∧ 0 ≤ c ∧ c ≤ 8 ∧ r = plus (mrow y k) c ∧ R[k]? = some r := by
  obtain ⟨k, hk⟩ := List.mem_iff_getElem?.mp hr
  have hk2 : k < m := by
    have := (List.getElem?_eq_some_iff.mp hk).1
    rw [← h.len]; exact this
  obtain ⟨c, c0, c1, e⟩ := h.at' k hk2
  rw [hk] at e
  exact ⟨k, c, hk2, c0, c1, Option.some.inj e, hk⟩
theorem mn_less {y : Int} (y1 : 1 ≤ y) {m : Nat} {R : List Row} (h : Mn y m R) {a : Nat} (ha : a < m) {x : Row} (hx : R[a]? = some x) : mb (R.take a ++ R.drop (a + 1)) x = false := by
  rw [Bool.eq_false_iff]
  intro hm
  rw [mb_iff] at hm
  obtain ⟨e, e0, e1, hR⟩ := h.at' a ha
  rw [hx] at hR
  have hxe := Option.some.inj hR
  subst hxe
  obtain ⟨t, ht⟩ : ∃ t : Int, (plus (mrow y a) e)[if a = 0 then 0 else 1]? = some (some t) := by
    rw [plus_mrow]
    by_cases hz : a = 0
    · rw [if_pos hz]; exact ⟨_, rfl⟩
    · rw [if_neg hz]; exact ⟨_, rfl⟩
  obtain ⟨own, ho, hr⟩ := hm _ t ht
  have key : ∃ k : Nat, k ≠ a ∧ R[k]? = some own := by
    rcases List.mem_append.mp ho with z | z
    · obtain ⟨k, hk⟩ := List.mem_iff_getElem?.mp z
      have hl := (List.getElem?_eq_some_iff.mp hk).1
      rw [List.length_take] at hl
      rw [List.getElem?_take_of_lt (by omega)] at hk
      exact ⟨k, by omega, hk⟩
    · obtain ⟨k, hk⟩ := List.mem_iff_getElem?.mp z
      rw [List.getElem?_drop] at hk
      exact ⟨a + 1 + k, by omega, hk⟩
  obtain ⟨k, hka, hk⟩ := key
  have hk2 : k < m := by
    have := (List.getElem?_eq_some_iff.mp hk).1
    rw [← h.len]; exact this
  obtain ⟨c, _, _, hc⟩ := h.at' k hk2
  rw [hk] at hc
  have := Option.some.inj hc
  subst this
  exact mn_far y1 hka hr
theorem mn_cut {y : Int} {m : Nat} {R : List Row} (h : Mn y m R) {o1 o2 : Option Int} {i : Int} (hi : o1 = some i) : mb R [o1, o2, none] = false := by
  rw [Bool.eq_false_iff]
  intro hm
  rw [mb_iff] at hm
  subst hi
  obtain ⟨own, ho, s, t, h1, h2, h3⟩ := hm 0 i rfl
  obtain ⟨k, c, _, _, _, e, _⟩ := mn_len h ho
  subst e
  obtain ⟨t', e1, _⟩ := h3 2 _ (by rw [plus_mrow]; rfl)
  cases e1
theorem plus_zero (xs : Row) : plus xs 0 = xs := by
  unfold plus
  conv => rhs; rw [← List.map_id xs]
  exact List.map_congr_left fun o _ => by cases o <;> simp
theorem mn_lay {y : Int} {m : Nat} {R : List Row} (h : Mn y m R) {x z : Row} (hx : x ∈ R) (hz : z ∈ R) : mb R (lay x z) = true ∧ ∃ i o2 o3, lay x z = [some i, o2, o3] := by
  obtain ⟨k, c, _, _, _, e1, _⟩ := mn_len h hx
  obtain ⟨k2, c2, _, _, _, e2, _⟩ := mn_len h hz
  refine ⟨mb_iff.mpr ?_, ?_⟩
  · have := made_lay (c := 0) (made_self hx) hz (by rw [e1, e2]; rfl)
    rwa [plus_zero] at this
  · rw [e1, e2, plus_mrow, plus_mrow]
    unfold lay
    simp only [List.zip_cons_cons, List.map_cons, List.zip_nil_right, List.map_nil]
    obtain ⟨t, ht, _⟩ := more_ge1 (x := some (0 + c)) (y := some (0 + c2)) rfl
    exact ⟨t, _, _, by rw [ht]⟩
end K8

namespace K8
open PySem L2 RW RZ PySem.RW U AL
theorem in_lot {n : Nat} {L : List Row} {line : Row} (hl : ∀ r ∈ L, r.length = n) (hn : line.length = n) (hw : n ≤ 4) (hi : ∃ (p : Nat) (a : Int), line[p]? = some (some a)) {Q : PyData → Prop} {E : AXK} : AFun.up A_is_in [.v (.tuple [.int (n : Nat), rowsD L]), .v (rowD line)] Q E ↔ Q (.bool (mb L line)) := by
  subst hn; exact in_up hl hw hi
theorem in_3 {L : List Row} {line : Row} (hl : ∀ r ∈ L, r.length = 3) (hn : line.length = 3) (hi : ∃ (p : Nat) (a : Int), line[p]? = some (some a)) {Q : PyData → Prop} {E : AXK} : AFun.up A_is_in [.v (.tuple [.int 3, rowsD L]), .v (rowD line)] Q E ↔ Q (.bool (mb L line)) := in_lot (n := 3) hl hn (by omega) hi
theorem mn_3 {y : Int} {m : Nat} {R : List Row} (h : Mn y m R) : ∀ r ∈ R, r.length = 3 := fun r hr => by
  obtain ⟨k, c, _, _, _, e, _⟩ := mn_len h hr
  rw [e]; rfl
theorem rep_two (a b : Bool) {Q : AK} : fRepr [.v (.list [.bool a, .bool b])] Q ↔ Q (.v (.str (PyData.list [.bool a, .bool b]).shown)) := fRepr_of (shOk_of (shw_two (shw_bool a) (shw_bool b)) (by omega) (by omega) ⟨_, .inl rfl⟩)
theorem many_go {y : Int} (y1 : 1 ≤ y) {m : Nat} (m1 : m ≤ 40) {R : List Row} (h : Mn y m R) {D : AEnds} {x0 x1 x2 x4 x5 x8 x9 x10 x11 : Option AV} (hn : ∀ o6 o7, D.nx [x0, x1, x2, some (.dat (rowsD R)), x4, x5, o6, o7, x8, x9, x10, x11]) : ∀ (l : List PyData) (_ : ∀ q ∈ l, ∃ a : Nat, q = .int a ∧ a < m) (o6 o7 : Option AV),
    forGo (agName 6) S_law_of_many_1 D l [x0, x1, x2, some (.dat (rowsD R)), x4, x5, o6, o7, x8, x9, x10, x11]
  | [], _, o6, o7 => hn _ _
  | x :: l, hl, o6, o7 => by
    have ih := many_go y1 m1 h hn l (fun q hq => hl q (List.mem_cons_of_mem _ hq))
    obtain ⟨a, rfl, ha⟩ := hl x (List.mem_cons_self ..)
    unfold forGo
    generalize forGo (agName 6) S_law_of_many_1 D l = F at ih ⊢
    simp only [S_law_of_many_1]
    (simp only [aFun, startA, toAV, sNext, sSeq, sRet, sIf, sSet, sAsg, sOwn, sLst, sDrop, sFor, sFrz, sApp, sSetIx, sRaise0, sBrk, sCont, sTry, tryX, noEx, sPar2, sPar3, aVal, aVar, aBin, aTst, aTstB, onTru, onV, truthD, aUn, aNil, aCons, aStar, itemsA, datas, aTup, aLst, aOf, aAndT, aOrT, aNotT, aAndV, aOrV, aNotV, aIf, aChain, aCB, onSeq, fLen, fTuple, fList, fInt, fAbs, fAdd, fI, fI0, fSub, fLt, fLe, fGt, fGe, fIs, fNeg, aSl, aRev, aNoPart, aPart, aLc, aYes, aFz, aFzT, frzA, frzV, aSeq, aRng1, aRng2, aZip, aEnumT, aEnumL, agName, agNil, agCons, agTup, wipeA, aCall, aCallK, flatD]; (try simp only [List.map_cons, List.map_nil, List.length_cons, List.length_nil, List.replicate, List.getElem?_cons_zero, List.getElem?_cons_succ, List.set_cons_zero, List.set_cons_succ, List.cons_append, List.nil_append, Option.map_some, Option.map_none, Nat.sub_self, Nat.reduceSub, Nat.reduceAdd, Nat.reduceLeDiff, Nat.reduceMul, Nat.zero_add, true_and, and_true, forall_const, Bool.false_eq_true, false_implies, implies_true, reduceCtorEq, forall_eq', Bool.true_eq_false, if_true, if_false, reduceIte, ite_true, ite_false, Bool.not_true, Bool.not_false, true_implies, List.length_map]); (try simp only [aFun, startA, toAV, sNext, sSeq, sRet, sIf, sSet, sAsg, sOwn, sLst, sDrop, sFor, sFrz, sApp, sSetIx, sRaise0, sBrk, sCont, sTry, tryX, noEx, sPar2, sPar3, aVal, aVar, aBin, aTst, aTstB, onTru, onV, truthD, aUn, aNil, aCons, aStar, itemsA, datas, aTup, aLst, aOf, aAndT, aOrT, aNotT, aAndV, aOrV, aNotV, aIf, aChain, aCB, onSeq, fLen, fTuple, fList, fInt, fAbs, fAdd, fI, fI0, fSub, fLt, fLe, fGt, fGe, fIs, fNeg, aSl, aRev, aNoPart, aPart, aLc, aYes, aFz, aFzT, frzA, frzV, aSeq, aRng1, aRng2, aZip, aEnumT, aEnumL, agName, agNil, agCons, agTup, wipeA, aCall, aCallK, flatD]); (try simp only [List.map_cons, List.map_nil, List.length_cons, List.length_nil, List.replicate, List.getElem?_cons_zero, List.getElem?_cons_succ, List.set_cons_zero, List.set_cons_succ, List.cons_append, List.nil_append, Option.map_some, Option.map_none, Nat.sub_self, Nat.reduceSub, Nat.reduceAdd, Nat.reduceLeDiff, Nat.reduceMul, Nat.zero_add, true_and, and_true, forall_const, Bool.false_eq_true, false_implies, implies_true, reduceCtorEq, forall_eq', Bool.true_eq_false, if_true, if_false, reduceIte, ite_true, ite_false, Bool.not_true, Bool.not_false, true_implies, List.length_map]))
    have hA : a < R.length := by rw [h.len]; exact ha
    have hx : R[a]? = some R[a] := List.getElem?_eq_getElem hA
    have e2 : cutD (R.map rowD) (some ((a : Int) + 1)) none = (R.drop (a + 1)).map rowD := by
      rw [show ((a : Int) + 1) = ((a + 1 : Nat) : Int) from rfl, cutD_hi, List.map_drop]
    have hm : R[a] ∈ R := List.getElem_mem hA
    obtain ⟨k, c, _, _, _, e3, _⟩ := mn_len h hm
    have hi : ∃ (p : Nat) (a' : Int), (R[a])[p]? = some (some a') := ⟨0, 0 + c, by rw [e3]; rfl⟩
    have hI : ∀ Q : AK, fIx (.v (rowsD R)) (.v (.int (a : Nat))) Q ↔ Q (.v (rowD R[a])) := fun Q => fIx_tup hx
    rw [cutD_lo, e2, ← List.map_take, hI, ← List.map_append]
    refine ⟨by have := h.len; rw [List.length_map, List.length_map, List.length_take, List.length_drop]; omega, ?_⟩
    rw [in_3 (fun r hr => mn_3 h r ((List.mem_append.mp hr).elim List.mem_of_mem_take List.mem_of_mem_drop)) (mn_3 h _ hm) hi, mn_less y1 h ha hx, hI, in_3 (mn_3 h) (mn_3 h _ hm) hi, mb_iff.mpr (made_self hm), rep_two, fNe_str]
    rw [show ((PyData.list [.bool false, .bool true]).shown == Str.ofString "[False, True]") = true by decide +kernel]
    exact ⟨fun z => (by cases z), fun _ => ih _ _⟩
theorem paired_map {α β : Type} {P : α → PyData → Prop} {S : α → β → Prop} {d : β → PyData} : ∀ {xs : List α} {out : List PyData}, (∀ x q, P x q → ∃ y, q = d y ∧ S x y) → Paired P xs out → ∃ ys, out = ys.map d ∧ Paired S xs ys
  | [], _, _, .nil => ⟨[], rfl, .nil⟩
  | x :: xs, _, h, .cons a b => by
    obtain ⟨y, rfl, s⟩ := h _ _ a
    obtain ⟨ys, rfl, t⟩ := paired_map h b
    exact ⟨y :: ys, rfl, .cons s t⟩
theorem map_pd_inj : ∀ {a b : Row}, a.map pd = b.map pd → a = b
  | [], [], _ => rfl
  | [], _ :: _, h => by cases h
  | _ :: _, [], h => by cases h
  | x :: xs, y :: ys, h => by
    rw [List.map_cons, List.map_cons] at h
    obtain ⟨h1, h2⟩ := List.cons.inj h
    rw [pd_inj h1, map_pd_inj h2]
theorem rowD_inj {a b : Row} (h : rowD a = rowD b) : a = b := map_pd_inj (PyData.tuple.inj h)
theorem mn_of {y : Int} {m : Nat} {out : List PyData} (h : Paired (fun x q => ∃ (r : Row) (c : Int), x = rowD r ∧ 0 ≤ c ∧ c ≤ 8 ∧ q = rowD (plus r c)) ((List.range m).map fun k => rowD (mrow y k)) out) : ∃ R, out = R.map rowD ∧ Mn y m R := by
  obtain ⟨R, rfl, hR⟩ := paired_map (d := rowD) (S := fun x z => ∃ (r : Row) (c : Int), x = rowD r ∧ 0 ≤ c ∧ c ≤ 8 ∧ z = plus r c) (fun x q ⟨r, c, e1, c0, c1, e2⟩ => ⟨_, e2, r, c, e1, c0, c1, rfl⟩) h
  refine ⟨R, rfl, ?_, fun k hk => ?_⟩
  · have := Paired.length hR
    simpa using this.symm
  · obtain ⟨z, hz, r, c, e1, c0, c1, e2⟩ := paired_at hR (i := k) (x := rowD (mrow y k)) (by rw [List.getElem?_map, List.getElem?_range hk]; rfl)
    rw [← rowD_inj e1] at e2
    exact ⟨c, c0, c1, by rw [hz, e2]⟩
theorem sp_many {Q : PyData → Prop} {E : AXK} (k : Q (.bool true)) : A_law_of_many [.urn] Q E := by
  simp only [A_law_of_many, S_law_of_many]
  (simp only [aFun, startA, toAV, sNext, sSeq, sRet, sIf, sSet, sAsg, sOwn, sLst, sDrop, sFor, sFrz, sApp, sSetIx, sRaise0, sBrk, sCont, sTry, tryX, noEx, sPar2, sPar3, aVal, aVar, aBin, aTst, aTstB, onTru, onV, truthD, aUn, aNil, aCons, aStar, itemsA, datas, aTup, aLst, aOf, aAndT, aOrT, aNotT, aAndV, aOrV, aNotV, aIf, aChain, aCB, onSeq, fLen, fTuple, fList, fInt, fAbs, fAdd, fI, fI0, fSub, fLt, fLe, fGt, fGe, fIs, fNeg, aSl, aRev, aNoPart, aPart, aLc, aYes, aFz, aFzT, frzA, frzV, aSeq, aRng1, aRng2, aZip, aEnumT, aEnumL, agName, agNil, agCons, agTup, wipeA, aCall, aCallK, flatD]; (try simp only [List.map_cons, List.map_nil, List.length_cons, List.length_nil, List.replicate, List.getElem?_cons_zero, List.getElem?_cons_succ, List.set_cons_zero, List.set_cons_succ, List.cons_append, List.nil_append, Option.map_some, Option.map_none, Nat.sub_self, Nat.reduceSub, Nat.reduceAdd, Nat.reduceLeDiff, Nat.reduceMul, Nat.zero_add, true_and, and_true, forall_const, Bool.false_eq_true, false_implies, implies_true, reduceCtorEq, forall_eq', Bool.true_eq_false, if_true, if_false, reduceIte, ite_true, ite_false, Bool.not_true, Bool.not_false, true_implies, List.length_map]); (try simp only [aFun, startA, toAV, sNext, sSeq, sRet, sIf, sSet, sAsg, sOwn, sLst, sDrop, sFor, sFrz, sApp, sSetIx, sRaise0, sBrk, sCont, sTry, tryX, noEx, sPar2, sPar3, aVal, aVar, aBin, aTst, aTstB, onTru, onV, truthD, aUn, aNil, aCons, aStar, itemsA, datas, aTup, aLst, aOf, aAndT, aOrT, aNotT, aAndV, aOrV, aNotV, aIf, aChain, aCB, onSeq, fLen, fTuple, fList, fInt, fAbs, fAdd, fI, fI0, fSub, fLt, fLe, fGt, fGe, fIs, fNeg, aSl, aRev, aNoPart, aPart, aLc, aYes, aFz, aFzT, frzA, frzV, aSeq, aRng1, aRng2, aZip, aEnumT, aEnumL, agName, agNil, agCons, agTup, wipeA, aCall, aCallK, flatD]); (try simp only [List.map_cons, List.map_nil, List.length_cons, List.length_nil, List.replicate, List.getElem?_cons_zero, List.getElem?_cons_succ, List.set_cons_zero, List.set_cons_succ, List.cons_append, List.nil_append, Option.map_some, Option.map_none, Nat.sub_self, Nat.reduceSub, Nat.reduceAdd, Nat.reduceLeDiff, Nat.reduceMul, Nat.zero_add, true_and, and_true, forall_const, Bool.false_eq_true, false_implies, implies_true, reduceCtorEq, forall_eq', Bool.true_eq_false, if_true, if_false, reduceIte, ite_true, ite_false, Bool.not_true, Bool.not_false, true_implies, List.length_map]))
  refine up_take (by omega) (by omega) fun r r0 r1 => ?_
  simp only [aFun, startA, toAV, sNext, sSeq, sRet, sIf, sSet, sAsg, sOwn, sLst, sDrop, sFor, sFrz, sApp, sSetIx, sRaise0, sBrk, sCont, sTry, tryX, noEx, sPar2, sPar3, aVal, aVar, aBin, aTst, aTstB, onTru, onV, truthD, aUn, aNil, aCons, aStar, itemsA, datas, aTup, aLst, aOf, aAndT, aOrT, aNotT, aAndV, aOrV, aNotV, aIf, aChain, aCB, onSeq, fLen, fTuple, fList, fInt, fAbs, fAdd, fI, fI0, fSub, fLt, fLe, fGt, fGe, fIs, fNeg, aSl, aRev, aNoPart, aPart, aLc, aYes, aFz, aFzT, frzA, frzV, aSeq, aRng1, aRng2, aZip, aEnumT, aEnumL, agName, agNil, agCons, agTup, wipeA, aCall, aCallK, flatD, List.map_cons, List.map_nil, List.length_cons, List.length_nil, List.replicate, List.getElem?_cons_zero, List.getElem?_cons_succ, List.set_cons_zero, List.set_cons_succ, List.cons_append, List.nil_append, Option.map_some, Option.map_none, Nat.sub_self, Nat.reduceSub, Nat.reduceAdd, Nat.reduceLeDiff, Nat.reduceMul, Nat.zero_add, true_and, and_true, forall_const, Bool.false_eq_true, false_implies, implies_true, reduceCtorEq, forall_eq', Bool.true_eq_false, if_true, if_false, reduceIte, ite_true, ite_false, Bool.not_true, Bool.not_false, true_implies, List.length_map]
  refine up_of (sp_one (by simp) (by simp) fun q hq => ?_)
  obtain ⟨m, rfl, m0, m1⟩ : ∃ m : Nat, q = .int m ∧ 2 ≤ m ∧ m ≤ 40 := by
    simp only [List.mem_cons, List.mem_nil_iff, or_false] at hq
    rcases hq with rfl | rfl | rfl
    · exact ⟨40, rfl, by omega, by omega⟩
    · exact ⟨40, rfl, by omega, by omega⟩
    · exact ⟨(2 + r).toNat, by rw [Int.toNat_of_nonneg (by omega)], by omega, by omega⟩
  refine ⟨by decide +kernel, by decide +kernel, ?_⟩
  refine up_of (sp_one (by simp) (by simp) fun q hq => ?_)
  obtain ⟨y, rfl, y0, y1⟩ : ∃ y : Int, q = .int y ∧ 1 ≤ y ∧ y.natAbs ≤ BN := by
    have hB := BN_pos
    simp only [List.mem_cons, List.mem_nil_iff, or_false] at hq
    rcases hq with rfl | rfl | rfl
    · exact ⟨1, rfl, by omega, by omega⟩
    · exact ⟨3, rfl, by omega, by omega⟩
    · exact ⟨_, rfl, by decide +kernel, by unfold BN; decide +kernel⟩
  have hg : RgB (m : Nat) := ⟨by omega, by omega⟩
  simp only [aFun, startA, toAV, sNext, sSeq, sRet, sIf, sSet, sAsg, sOwn, sLst, sDrop, sFor, sFrz, sApp, sSetIx, sRaise0, sBrk, sCont, sTry, tryX, noEx, sPar2, sPar3, aVal, aVar, aBin, aTst, aTstB, onTru, onV, truthD, aUn, aNil, aCons, aStar, itemsA, datas, aTup, aLst, aOf, aAndT, aOrT, aNotT, aAndV, aOrV, aNotV, aIf, aChain, aCB, onSeq, fLen, fTuple, fList, fInt, fAbs, fAdd, fI, fI0, fSub, fLt, fLe, fGt, fGe, fIs, fNeg, aSl, aRev, aNoPart, aPart, aLc, aYes, aFz, aFzT, frzA, frzV, aSeq, aRng1, aRng2, aZip, aEnumT, aEnumL, agName, agNil, agCons, agTup, wipeA, aCall, aCallK, flatD, List.map_cons, List.map_nil, List.length_cons, List.length_nil, List.replicate, List.getElem?_cons_zero, List.getElem?_cons_succ, List.set_cons_zero, List.set_cons_succ, List.cons_append, List.nil_append, Option.map_some, Option.map_none, Nat.sub_self, Nat.reduceSub, Nat.reduceAdd, Nat.reduceLeDiff, Nat.reduceMul, Nat.zero_add, true_and, and_true, forall_const, Bool.false_eq_true, false_implies, implies_true, reduceCtorEq, forall_eq', Bool.true_eq_false, if_true, if_false, reduceIte, ite_true, ite_false, Bool.not_true, Bool.not_false, true_implies, List.length_map, hg, rangeD, Int.toNat_natCast, List.length_range]
  have hB40 : ∀ i : Int, i.natAbs ≤ 1600 → BigB i := fun i hi => bigB_bn (by have := BN_pos; omega)
  have hBy : BigB y := bigB_bn (by omega)
  refine ⟨by omega, ?_⟩
  rw [lcGo_map (fun k : Nat => rowD (mrow y k))]
  · rw [List.nil_append]
    refine ⟨by rw [List.length_map, List.length_range]; omega, lcGo_all (fun x q => ∃ (r : Row) (c : Int), x = rowD r ∧ 0 ≤ c ∧ c ≤ 8 ∧ q = rowD (plus r c)) _ _ (fun x hx R hR => ?_) fun out hout => ?_⟩
    rotate_left
    · rw [List.nil_append]
      obtain ⟨R, rfl, hM⟩ := mn_of hout
      refine up_take (by omega) (by omega) fun t t0 t1 => ?_
      refine many_go y0 m1 hM (fun o6 o7 => ?_) _ (fun q hq => ?_) _ _
      rotate_left
      · simp only [List.mem_cons, List.mem_nil_iff, or_false] at hq
        rcases hq with rfl | rfl | rfl
        · exact ⟨m - 1, by congr 1; omega, by omega⟩
        · exact ⟨0, rfl, by omega⟩
        · exact ⟨t.toNat, by rw [Int.toNat_of_nonneg t0], by omega⟩
      · simp only [aFun, startA, toAV, sNext, sSeq, sRet, sIf, sSet, sAsg, sOwn, sLst, sDrop, sFor, sFrz, sApp, sSetIx, sRaise0, sBrk, sCont, sTry, tryX, noEx, sPar2, sPar3, aVal, aVar, aBin, aTst, aTstB, onTru, onV, truthD, aUn, aNil, aCons, aStar, itemsA, datas, aTup, aLst, aOf, aAndT, aOrT, aNotT, aAndV, aOrV, aNotV, aIf, aChain, aCB, onSeq, fLen, fTuple, fList, fInt, fAbs, fAdd, fI, fI0, fSub, fLt, fLe, fGt, fGe, fIs, fNeg, aSl, aRev, aNoPart, aPart, aLc, aYes, aFz, aFzT, frzA, frzV, aSeq, aRng1, aRng2, aZip, aEnumT, aEnumL, agName, agNil, agCons, agTup, wipeA, aCall, aCallK, flatD, List.map_cons, List.map_nil, List.length_cons, List.length_nil, List.replicate, List.getElem?_cons_zero, List.getElem?_cons_succ, List.set_cons_zero, List.set_cons_succ, List.cons_append, List.nil_append, Option.map_some, Option.map_none, Nat.sub_self, Nat.reduceSub, Nat.reduceAdd, Nat.reduceLeDiff, Nat.reduceMul, Nat.zero_add, true_and, and_true, forall_const, Bool.false_eq_true, false_implies, implies_true, reduceCtorEq, forall_eq', Bool.true_eq_false, if_true, if_false, reduceIte, ite_true, ite_false, Bool.not_true, Bool.not_false, true_implies, List.length_map]
        have hR0 : (0 : Int) < m := by omega
        refine up_take hR0 (by omega) fun u u0 u1 => ?_
        obtain ⟨x, hx, ex⟩ := ix_rows (L := R) u0 (by rw [hM.len]; exact u1)
        rw [ex]
        refine up_take hR0 (by omega) fun v v0 v1 => ?_
        obtain ⟨z, hz, ez⟩ := ix_rows (L := R) v0 (by rw [hM.len]; exact v1)
        rw [ez]
        simp only [zipD_map]
        have lx := mn_3 hM x hx
        have lz := mn_3 hM z hz
        have hz2 : (x.zip z).length ≤ 2000000 := by rw [List.length_zip, lx]; omega
        rw [lcGo_map (fun p : Option Int × Option Int => pd (moreN p.1 p.2))]
        · simp only [List.length_map, hz2, true_and, List.nil_append]
          rw [show (x.zip z).map (fun p : Option Int × Option Int => pd (moreN p.1 p.2)) = (lay x z).map pd by unfold lay; rw [List.map_map]; rfl]
          obtain ⟨hm, i, o2, o3, el⟩ := mn_lay hM hx hz
          rw [el] at hm ⊢
          rw [in_3 (mn_3 hM) rfl ⟨0, i, rfl⟩, hm, show (2 : Int) = ((2 : Nat) : Int) from rfl, cutD_lo]
          refine ⟨by simp, ?_⟩
          rw [show List.take 2 ([some i, o2, o3].map pd) ++ [PyData.none] = [some i, o2, none].map pd from rfl, in_3 (mn_3 hM) rfl ⟨0, i, rfl⟩, mn_cut hM rfl, rep_two, fEq_str]
          rw [show ((PyData.list [.bool true, .bool false]).shown == Str.ofString "[True, False]") = true by decide +kernel]
          exact k
        · intro p hp R'
          simp only [aFun, startA, toAV, sNext, sSeq, sRet, sIf, sSet, sAsg, sOwn, sLst, sDrop, sFor, sFrz, sApp, sSetIx, sRaise0, sBrk, sCont, sTry, tryX, noEx, sPar2, sPar3, aVal, aVar, aBin, aTst, aTstB, onTru, onV, truthD, aUn, aNil, aCons, aStar, itemsA, datas, aTup, aLst, aOf, aAndT, aOrT, aNotT, aAndV, aOrV, aNotV, aIf, aChain, aCB, onSeq, fLen, fTuple, fList, fInt, fAbs, fAdd, fI, fI0, fSub, fLt, fLe, fGt, fGe, fIs, fNeg, aSl, aRev, aNoPart, aPart, aLc, aYes, aFz, aFzT, frzA, frzV, aSeq, aRng1, aRng2, aZip, aEnumT, aEnumL, agName, agNil, agCons, agTup, wipeA, aCall, aCallK, flatD, List.map_cons, List.map_nil, List.length_cons, List.length_nil, List.replicate, List.getElem?_cons_zero, List.getElem?_cons_succ, List.set_cons_zero, List.set_cons_succ, List.cons_append, List.nil_append, Option.map_some, Option.map_none, Nat.sub_self, Nat.reduceSub, Nat.reduceAdd, Nat.reduceLeDiff, Nat.reduceMul, Nat.zero_add, true_and, and_true, forall_const, Bool.false_eq_true, false_implies, implies_true, reduceCtorEq, forall_eq', Bool.true_eq_false, if_true, if_false, reduceIte, ite_true, ite_false, Bool.not_true, Bool.not_false, true_implies, List.length_map]
          rw [up_iff (sp_more p.1 p.2)]
    · obtain ⟨k, hk, rfl⟩ := List.mem_map.mp hx
      simp only [aFun, startA, toAV, sNext, sSeq, sRet, sIf, sSet, sAsg, sOwn, sLst, sDrop, sFor, sFrz, sApp, sSetIx, sRaise0, sBrk, sCont, sTry, tryX, noEx, sPar2, sPar3, aVal, aVar, aBin, aTst, aTstB, onTru, onV, truthD, aUn, aNil, aCons, aStar, itemsA, datas, aTup, aLst, aOf, aAndT, aOrT, aNotT, aAndV, aOrV, aNotV, aIf, aChain, aCB, onSeq, fLen, fTuple, fList, fInt, fAbs, fAdd, fI, fI0, fSub, fLt, fLe, fGt, fGe, fIs, fNeg, aSl, aRev, aNoPart, aPart, aLc, aYes, aFz, aFzT, frzA, frzV, aSeq, aRng1, aRng2, aZip, aEnumT, aEnumL, agName, agNil, agCons, agTup, wipeA, aCall, aCallK, flatD, List.map_cons, List.map_nil, List.length_cons, List.length_nil, List.replicate, List.getElem?_cons_zero, List.getElem?_cons_succ, List.set_cons_zero, List.set_cons_succ, List.cons_append, List.nil_append, Option.map_some, Option.map_none, Nat.sub_self, Nat.reduceSub, Nat.reduceAdd, Nat.reduceLeDiff, Nat.reduceMul, Nat.zero_add, true_and, and_true, forall_const, Bool.false_eq_true, false_implies, implies_true, reduceCtorEq, forall_eq', Bool.true_eq_false, if_true, if_false, reduceIte, ite_true, ite_false, Bool.not_true, Bool.not_false, true_implies, List.length_map]
      refine up_take (by omega) (by omega) fun t t0 t1 => ?_
      try simp only [aFun, startA, toAV, sNext, sSeq, sRet, sIf, sSet, sAsg, sOwn, sLst, sDrop, sFor, sFrz, sApp, sSetIx, sRaise0, sBrk, sCont, sTry, tryX, noEx, sPar2, sPar3, aVal, aVar, aBin, aTst, aTstB, onTru, onV, truthD, aUn, aNil, aCons, aStar, itemsA, datas, aTup, aLst, aOf, aAndT, aOrT, aNotT, aAndV, aOrV, aNotV, aIf, aChain, aCB, onSeq, fLen, fTuple, fList, fInt, fAbs, fAdd, fI, fI0, fSub, fLt, fLe, fGt, fGe, fIs, fNeg, aSl, aRev, aNoPart, aPart, aLc, aYes, aFz, aFzT, frzA, frzV, aSeq, aRng1, aRng2, aZip, aEnumT, aEnumL, agName, agNil, agCons, agTup, wipeA, aCall, aCallK, flatD, List.map_cons, List.map_nil, List.length_cons, List.length_nil, List.replicate, List.getElem?_cons_zero, List.getElem?_cons_succ, List.set_cons_zero, List.set_cons_succ, List.cons_append, List.nil_append, Option.map_some, Option.map_none, Nat.sub_self, Nat.reduceSub, Nat.reduceAdd, Nat.reduceLeDiff, Nat.reduceMul, Nat.zero_add, true_and, and_true, forall_const, Bool.false_eq_true, false_implies, implies_true, reduceCtorEq, forall_eq', Bool.true_eq_false, if_true, if_false, reduceIte, ite_true, ite_false, Bool.not_true, Bool.not_false, true_implies, List.length_map]
      rw [up_iff (sp_plus (mrow y k) t (by show 3 ≤ 1000; omega))]
      exact hR _ ⟨mrow y k, t, rfl, t0, by omega, rfl⟩
  · intro k hk R
    have hk2 : k < m := List.mem_range.mp hk
    simp only [aFun, startA, toAV, sNext, sSeq, sRet, sIf, sSet, sAsg, sOwn, sLst, sDrop, sFor, sFrz, sApp, sSetIx, sRaise0, sBrk, sCont, sTry, tryX, noEx, sPar2, sPar3, aVal, aVar, aBin, aTst, aTstB, onTru, onV, truthD, aUn, aNil, aCons, aStar, itemsA, datas, aTup, aLst, aOf, aAndT, aOrT, aNotT, aAndV, aOrV, aNotV, aIf, aChain, aCB, onSeq, fLen, fTuple, fList, fInt, fAbs, fAdd, fI, fI0, fSub, fLt, fLe, fGt, fGe, fIs, fNeg, aSl, aRev, aNoPart, aPart, aLc, aYes, aFz, aFzT, frzA, frzV, aSeq, aRng1, aRng2, aZip, aEnumT, aEnumL, agName, agNil, agCons, agTup, wipeA, aCall, aCallK, flatD, List.map_cons, List.map_nil, List.length_cons, List.length_nil, List.replicate, List.getElem?_cons_zero, List.getElem?_cons_succ, List.set_cons_zero, List.set_cons_succ, List.cons_append, List.nil_append, Option.map_some, Option.map_none, Nat.sub_self, Nat.reduceSub, Nat.reduceAdd, Nat.reduceLeDiff, Nat.reduceMul, Nat.zero_add, true_and, and_true, forall_const, Bool.false_eq_true, false_implies, implies_true, reduceCtorEq, forall_eq', Bool.true_eq_false, if_true, if_false, reduceIte, ite_true, ite_false, Bool.not_true, Bool.not_false, true_implies, List.length_map, fMul, Int.zero_add]
    have hm1 : (y * (k : Int)).natAbs ≤ 40 * BN := by
      rw [Int.natAbs_mul, Nat.mul_comm, Int.natAbs_natCast]
      exact Nat.mul_le_mul (by omega) y1
    have hm2 : BigB (y * (k : Int)) := bigB_bn (by omega)
    have hm3 : BigB (k : Int) := hB40 _ (by omega)
    simp only [hm2, hm3, hBy, true_and]
    exact Iff.rfl
end K8

namespace K8
open PySem L2 RW RZ PySem.RW U AL
structure Tw (ms : List Int) (e : Nat) (L : List Row) (lo hi : Int) : Prop where
  mem : ∀ r ∈ L, (∃ l c, l ∈ ms ∧ r = [some c, some (l + c)]) ∨ (e ∈ [1, 3] ∧ ∃ z, r = [some z, none]) ∨ (e ∈ [2, 3] ∧ ∃ z, r = [none, some z])
  has : ∀ l ∈ ms, ∃ c, [some c, some (l + c)] ∈ L
  one : e ∈ [1, 3] → ∃ z, [some z, none] ∈ L
  two : e ∈ [2, 3] → ∃ z, [none, some z] ∈ L
  l0 : lo ∈ ms
  h0 : hi ∈ ms
  l1 : ∀ l ∈ ms, lo ≤ l
  h1 : ∀ l ∈ ms, l ≤ hi
theorem rch_pair {d x c y : Int} : (Rch [some d, some x] [some c, some y] 0 ↔ x - d ≤ y - c) ∧ (Rch [some d, some x] [some c, some y] 1 ↔ y - c ≤ x - d) := by
  constructor
  · constructor
    · rintro ⟨a, t, h1, h2, h3⟩
      obtain ⟨t', e1, e2⟩ := h3 1 x rfl
      cases h1; cases h2; cases e1
      exact e2
    · intro h
      refine ⟨d, c, rfl, rfl, fun q l hq => ?_⟩
      match q, hq with
      | 0, hq => cases hq; exact ⟨c, rfl, by omega⟩
      | 1, hq => cases hq; exact ⟨y, rfl, h⟩
      | q + 2, hq => cases hq
  · constructor
    · rintro ⟨a, t, h1, h2, h3⟩
      obtain ⟨t', e1, e2⟩ := h3 0 d rfl
      cases h1; cases h2; cases e1
      omega
    · intro h
      refine ⟨x, y, rfl, rfl, fun q l hq => ?_⟩
      match q, hq with
      | 0, hq => cases hq; exact ⟨c, rfl, by omega⟩
      | 1, hq => cases hq; exact ⟨y, rfl, by omega⟩
      | q + 2, hq => cases hq
theorem rch_one {z c : Int} {y : Option Int} : Rch [some z, none] [some c, y] 0 := by
  refine ⟨z, c, rfl, rfl, fun q l hq => ?_⟩
  match q, hq with
  | 0, hq => cases hq; exact ⟨c, rfl, by omega⟩
  | 1, hq => cases hq
  | q + 2, hq => cases hq
theorem rch_two {z y : Int} {c : Option Int} : Rch [none, some z] [c, some y] 1 := by
  refine ⟨z, y, rfl, rfl, fun q l hq => ?_⟩
  match q, hq with
  | 0, hq => cases hq
  | 1, hq => cases hq; exact ⟨y, rfl, by omega⟩
  | q + 2, hq => cases hq
theorem tw_mb {ms : List Int} {e : Nat} {L : List Row} {lo hi : Int} (h : Tw ms e L lo hi) (own c : Int) : mb L (plus [some 0, some own] c) = ((decide (own ≥ lo) || decide (e ∈ [1, 3])) && (decide (own ≤ hi) || decide (e ∈ [2, 3]))) := by
  rw [Bool.eq_iff_iff, mb_iff, Bool.and_eq_true, Bool.or_eq_true, Bool.or_eq_true, decide_eq_true_iff, decide_eq_true_iff, decide_eq_true_iff, decide_eq_true_iff]
  rw [show plus [some 0, some own] c = [some (0 + c), some (own + c)] from rfl]
  constructor
  · intro hm
    constructor
    · obtain ⟨r, hr, hh⟩ := hm 0 (0 + c) rfl
      rcases h.mem r hr with ⟨l, d, hl, rfl⟩ | ⟨he, _⟩ | ⟨_, z, rfl⟩
      · have := rch_pair.1.mp hh
        have := h.l1 l hl
        exact .inl (by omega)
      · exact .inr he
      · obtain ⟨a, t, h1, _⟩ := hh
        cases h1
    · obtain ⟨r, hr, hh⟩ := hm 1 (own + c) rfl
      rcases h.mem r hr with ⟨l, d, hl, rfl⟩ | ⟨_, z, rfl⟩ | ⟨he, _⟩
      · have := rch_pair.2.mp hh
        have := h.h1 l hl
        exact .inl (by omega)
      · obtain ⟨a, t, h1, _⟩ := hh
        cases h1
      · exact .inr he
  · rintro ⟨k1, k2⟩ p t ht
    match p, ht with
    | 0, ht =>
      cases ht
      rcases k1 with k1 | k1
      · obtain ⟨d, hd⟩ := h.has lo h.l0
        exact ⟨_, hd, rch_pair.1.mpr (by omega)⟩
      · obtain ⟨z, hz⟩ := h.one k1
        exact ⟨_, hz, rch_one⟩
    | 1, ht =>
      cases ht
      rcases k2 with k2 | k2
      · obtain ⟨d, hd⟩ := h.has hi h.h0
        exact ⟨_, hd, rch_pair.2.mpr (by omega)⟩
      · obtain ⟨z, hz⟩ := h.two k2
        exact ⟨_, hz, rch_two⟩
    | p + 2, ht => cases ht
theorem tw_one {ms : List Int} {e : Nat} {L : List Row} {lo hi : Int} (h : Tw ms e L lo hi) (c : Int) : mb L [some c, none] = decide (e ∈ [1, 3]) := by
  rw [Bool.eq_iff_iff, mb_iff, decide_eq_true_iff]
  constructor
  · intro hm
    obtain ⟨r, hr, hh⟩ := hm 0 c rfl
    rcases h.mem r hr with ⟨l, d, hl, rfl⟩ | ⟨he, _⟩ | ⟨_, z, rfl⟩
    · obtain ⟨a, t, h1, h2, h3⟩ := hh
      obtain ⟨t', e1, _⟩ := h3 1 _ rfl
      cases e1
    · exact he
    · obtain ⟨a, t, h1, _⟩ := hh
      cases h1
  · intro k p t ht
    match p, ht with
    | 0, ht =>
      cases ht
      obtain ⟨z, hz⟩ := h.one k
      exact ⟨_, hz, rch_one⟩
    | 1, ht => cases ht
    | p + 2, ht => cases ht
theorem tw_two {ms : List Int} {e : Nat} {L : List Row} {lo hi : Int} (h : Tw ms e L lo hi) (c : Int) : mb L [none, some c] = decide (e ∈ [2, 3]) := by
  rw [Bool.eq_iff_iff, mb_iff, decide_eq_true_iff]
  constructor
  · intro hm
    obtain ⟨r, hr, hh⟩ := hm 1 c rfl
    rcases h.mem r hr with ⟨l, d, hl, rfl⟩ | ⟨_, z, rfl⟩ | ⟨he, _⟩
    · obtain ⟨a, t, h1, h2, h3⟩ := hh
      obtain ⟨t', e1, _⟩ := h3 0 _ rfl
      cases e1
    · obtain ⟨a, t, h1, _⟩ := hh
      cases h1
    · exact he
  · intro k p t ht
    match p, ht with
    | 0, ht => cases ht
    | 1, ht =>
      cases ht
      obtain ⟨z, hz⟩ := h.two k
      exact ⟨_, hz, rch_two⟩
    | p + 2, ht => cases ht
theorem tw_len {ms : List Int} {e : Nat} {L : List Row} {lo hi : Int} (h : Tw ms e L lo hi) : ∀ r ∈ L, r.length = 2 := fun r hr => by
  rcases h.mem r hr with ⟨l, d, hl, rfl⟩ | ⟨_, z, rfl⟩ | ⟨_, z, rfl⟩ <;> rfl
theorem in_2 {L : List Row} {line : Row} (hl : ∀ r ∈ L, r.length = 2) (hn : line.length = 2) (hi : ∃ (p : Nat) (a : Int), line[p]? = some (some a)) {Q : PyData → Prop} {E : AXK} : AFun.up A_is_in [.v (.tuple [.int 2, rowsD L]), .v (rowD line)] Q E ↔ Q (.bool (mb L line)) := in_lot (n := 2) hl hn (by omega) hi
theorem fIn_nats (e : Nat) (ns : List Nat) {Q : AK} : fIn false (.v (.int (e : Nat))) (.v (.tuple (ns.map fun k : Nat => .int (k : Nat)))) Q ↔ Q (.v (.bool (decide (e ∈ ns)))) := by
  show (_ ∧ _ ∧ Q (.v (.bool (if false = true then _ else inD _ _)))) ↔ _
  rw [inD_nats]
  exact ⟨fun z => z.2.2, fun z => ⟨rfl, flat_nats ns, z⟩⟩
theorem fIn_13 (e : Nat) {Q : AK} : fIn false (.v (.int (e : Nat))) (.v (.tuple [.int 1, .int 3])) Q ↔ Q (.v (.bool (decide (e ∈ [1, 3])))) := fIn_nats e [1, 3]
theorem fIn_23 (e : Nat) {Q : AK} : fIn false (.v (.int (e : Nat))) (.v (.tuple [.int 2, .int 3])) Q ↔ Q (.v (.bool (decide (e ∈ [2, 3])))) := fIn_nats e [2, 3]
theorem rep_b (c : Bool) {Q : AK} : fRepr [.v (.bool c)] Q ↔ Q (.v (.str (PyData.bool c).shown)) := fRepr_of (sm_bool c)
theorem two_go {a b : Int} (w : Wd a b) {ms : List Int} {e : Nat} {L : List Row} {lo hi : Int} (h : Tw ms e L lo hi) (i0 : ∀ Q : AK, fIx (.v (.list (ms.map .int))) (.v (.int 0)) Q ↔ Q (.v (.int lo))) (i1 : ∀ Q : AK, fIx (.v (.list (ms.map .int))) (.v (.int (-1))) Q ↔ Q (.v (.int hi))) {D : AEnds} {x3 x7 x8 x10 : Option AV} (hn : ∀ o5 o9, D.nx [some .urn, some (.dat (wdD a b)), some (.dat (.list (ms.map .int))), x3, some (.dat (rowsD L)), o5, some (.dat (.int (e : Nat))), x7, x8, o9, x10]) : ∀ (l : List Int) (o5 o9 : Option AV),
    forGo (agName 5) S_law_of_two_1 D (l.map .int) [some .urn, some (.dat (wdD a b)), some (.dat (.list (ms.map .int))), x3, some (.dat (rowsD L)), o5, some (.dat (.int (e : Nat))), x7, x8, o9, x10]
  | [], o5, o9 => hn _ _
  | own :: l, o5, o9 => by
    have ih := two_go w h i0 i1 hn l
    rw [List.map_cons]
    unfold forGo
    generalize forGo (agName 5) S_law_of_two_1 D (l.map .int) = F at ih ⊢
    have im := fun c => tw_mb h own c
    have il := tw_len h
    have hin : ∀ (c : Int) (Q : PyData → Prop) (E : AXK), AFun.up A_is_in [.v (.tuple [.int 2, rowsD L]), .v (rowD (plus [some 0, some own] c))] Q E ↔ Q (.bool (mb L (plus [some 0, some own] c))) := fun c Q E => in_2 il rfl ⟨0, 0 + c, rfl⟩
    simp only [S_law_of_two_1]
    (simp only [aFun, startA, toAV, sNext, sSeq, sRet, sIf, sSet, sAsg, sOwn, sLst, sDrop, sFor, sFrz, sApp, sSetIx, sRaise0, sBrk, sCont, sTry, tryX, noEx, sPar2, sPar3, aVal, aVar, aBin, aTst, aTstB, onTru, onV, truthD, aUn, aNil, aCons, aStar, itemsA, datas, aTup, aLst, aOf, aAndT, aOrT, aNotT, aAndV, aOrV, aNotV, aIf, aChain, aCB, onSeq, fLen, fTuple, fList, fInt, fAbs, fAdd, fI, fI0, fSub, fLt, fLe, fGt, fGe, fIs, fNeg, aSl, aRev, aNoPart, aPart, aLc, aYes, aFz, aFzT, frzA, frzV, aSeq, aRng1, aRng2, aZip, aEnumT, aEnumL, agName, agNil, agCons, agTup, wipeA, aCall, aCallK, flatD]; (try simp only [List.map_cons, List.map_nil, List.length_cons, List.length_nil, List.replicate, List.getElem?_cons_zero, List.getElem?_cons_succ, List.set_cons_zero, List.set_cons_succ, List.cons_append, List.nil_append, Option.map_some, Option.map_none, Nat.sub_self, Nat.reduceSub, Nat.reduceAdd, Nat.reduceLeDiff, Nat.reduceMul, Nat.zero_add, true_and, and_true, forall_const, Bool.false_eq_true, false_implies, implies_true, reduceCtorEq, forall_eq', Bool.true_eq_false, if_true, if_false, reduceIte, ite_true, ite_false, Bool.not_true, Bool.not_false, true_implies, List.length_map]); (try simp only [aFun, startA, toAV, sNext, sSeq, sRet, sIf, sSet, sAsg, sOwn, sLst, sDrop, sFor, sFrz, sApp, sSetIx, sRaise0, sBrk, sCont, sTry, tryX, noEx, sPar2, sPar3, aVal, aVar, aBin, aTst, aTstB, onTru, onV, truthD, aUn, aNil, aCons, aStar, itemsA, datas, aTup, aLst, aOf, aAndT, aOrT, aNotT, aAndV, aOrV, aNotV, aIf, aChain, aCB, onSeq, fLen, fTuple, fList, fInt, fAbs, fAdd, fI, fI0, fSub, fLt, fLe, fGt, fGe, fIs, fNeg, aSl, aRev, aNoPart, aPart, aLc, aYes, aFz, aFzT, frzA, frzV, aSeq, aRng1, aRng2, aZip, aEnumT, aEnumL, agName, agNil, agCons, agTup, wipeA, aCall, aCallK, flatD]); (try simp only [List.map_cons, List.map_nil, List.length_cons, List.length_nil, List.replicate, List.getElem?_cons_zero, List.getElem?_cons_succ, List.set_cons_zero, List.set_cons_succ, List.cons_append, List.nil_append, Option.map_some, Option.map_none, Nat.sub_self, Nat.reduceSub, Nat.reduceAdd, Nat.reduceLeDiff, Nat.reduceMul, Nat.zero_add, true_and, and_true, forall_const, Bool.false_eq_true, false_implies, implies_true, reduceCtorEq, forall_eq', Bool.true_eq_false, if_true, if_false, reduceIte, ite_true, ite_false, Bool.not_true, Bool.not_false, true_implies, List.length_map]))
    obtain ⟨c1, e1⟩ : ∃ c, decide (own ≥ lo) = c := ⟨_, rfl⟩
    obtain ⟨c2, e2⟩ : ∃ c, decide (own ≤ hi) = c := ⟨_, rfl⟩
    obtain ⟨c3, e3⟩ : ∃ c, decide (e ∈ [1, 3]) = c := ⟨_, rfl⟩
    obtain ⟨c4, e4⟩ : ∃ c, decide (e ∈ [2, 3]) = c := ⟨_, rfl⟩
    rw [i0]
    simp only [fGe]
    rw [e1]
    rw [e1, e2, e3, e4] at im
    cases c1
    all_goals (try simp only [List.map_cons, List.map_nil, List.length_cons, List.length_nil, List.replicate, List.getElem?_cons_zero, List.getElem?_cons_succ, List.set_cons_zero, List.set_cons_succ, List.cons_append, List.nil_append, Option.map_some, Option.map_none, Nat.sub_self, Nat.reduceSub, Nat.reduceAdd, Nat.reduceLeDiff, Nat.reduceMul, Nat.zero_add, true_and, and_true, forall_const, Bool.false_eq_true, false_implies, implies_true, reduceCtorEq, forall_eq', Bool.true_eq_false, if_true, if_false, reduceIte, ite_true, ite_false, Bool.not_true, Bool.not_false, true_implies, List.length_map])
    all_goals (try rw [fIn_13, e3])
    all_goals (try simp only [aFun, startA, toAV, sNext, sSeq, sRet, sIf, sSet, sAsg, sOwn, sLst, sDrop, sFor, sFrz, sApp, sSetIx, sRaise0, sBrk, sCont, sTry, tryX, noEx, sPar2, sPar3, aVal, aVar, aBin, aTst, aTstB, onTru, onV, truthD, aUn, aNil, aCons, aStar, itemsA, datas, aTup, aLst, aOf, aAndT, aOrT, aNotT, aAndV, aOrV, aNotV, aIf, aChain, aCB, onSeq, fLen, fTuple, fList, fInt, fAbs, fAdd, fI, fI0, fSub, fLt, fLe, fGt, fGe, fIs, fNeg, aSl, aRev, aNoPart, aPart, aLc, aYes, aFz, aFzT, frzA, frzV, aSeq, aRng1, aRng2, aZip, aEnumT, aEnumL, agName, agNil, agCons, agTup, wipeA, aCall, aCallK, flatD])
    all_goals cases c3
    all_goals (try simp only [List.map_cons, List.map_nil, List.length_cons, List.length_nil, List.replicate, List.getElem?_cons_zero, List.getElem?_cons_succ, List.set_cons_zero, List.set_cons_succ, List.cons_append, List.nil_append, Option.map_some, Option.map_none, Nat.sub_self, Nat.reduceSub, Nat.reduceAdd, Nat.reduceLeDiff, Nat.reduceMul, Nat.zero_add, true_and, and_true, forall_const, Bool.false_eq_true, false_implies, implies_true, reduceCtorEq, forall_eq', Bool.true_eq_false, if_true, if_false, reduceIte, ite_true, ite_false, Bool.not_true, Bool.not_false, true_implies, List.length_map])
    all_goals (try rw [i1])
    all_goals (try simp only [fLe])
    all_goals (try rw [e2])
    all_goals cases c2
    all_goals (try simp only [List.map_cons, List.map_nil, List.length_cons, List.length_nil, List.replicate, List.getElem?_cons_zero, List.getElem?_cons_succ, List.set_cons_zero, List.set_cons_succ, List.cons_append, List.nil_append, Option.map_some, Option.map_none, Nat.sub_self, Nat.reduceSub, Nat.reduceAdd, Nat.reduceLeDiff, Nat.reduceMul, Nat.zero_add, true_and, and_true, forall_const, Bool.false_eq_true, false_implies, implies_true, reduceCtorEq, forall_eq', Bool.true_eq_false, if_true, if_false, reduceIte, ite_true, ite_false, Bool.not_true, Bool.not_false, true_implies, List.length_map])
    all_goals (try rw [fIn_23, e4])
    all_goals (try simp only [aFun, startA, toAV, sNext, sSeq, sRet, sIf, sSet, sAsg, sOwn, sLst, sDrop, sFor, sFrz, sApp, sSetIx, sRaise0, sBrk, sCont, sTry, tryX, noEx, sPar2, sPar3, aVal, aVar, aBin, aTst, aTstB, onTru, onV, truthD, aUn, aNil, aCons, aStar, itemsA, datas, aTup, aLst, aOf, aAndT, aOrT, aNotT, aAndV, aOrV, aNotV, aIf, aChain, aCB, onSeq, fLen, fTuple, fList, fInt, fAbs, fAdd, fI, fI0, fSub, fLt, fLe, fGt, fGe, fIs, fNeg, aSl, aRev, aNoPart, aPart, aLc, aYes, aFz, aFzT, frzA, frzV, aSeq, aRng1, aRng2, aZip, aEnumT, aEnumL, agName, agNil, agCons, agTup, wipeA, aCall, aCallK, flatD])
    all_goals cases c4
    all_goals (try simp only [aFun, startA, toAV, sNext, sSeq, sRet, sIf, sSet, sAsg, sOwn, sLst, sDrop, sFor, sFrz, sApp, sSetIx, sRaise0, sBrk, sCont, sTry, tryX, noEx, sPar2, sPar3, aVal, aVar, aBin, aTst, aTstB, onTru, onV, truthD, aUn, aNil, aCons, aStar, itemsA, datas, aTup, aLst, aOf, aAndT, aOrT, aNotT, aAndV, aOrV, aNotV, aIf, aChain, aCB, onSeq, fLen, fTuple, fList, fInt, fAbs, fAdd, fI, fI0, fSub, fLt, fLe, fGt, fGe, fIs, fNeg, aSl, aRev, aNoPart, aPart, aLc, aYes, aFz, aFzT, frzA, frzV, aSeq, aRng1, aRng2, aZip, aEnumT, aEnumL, agName, agNil, agCons, agTup, wipeA, aCall, aCallK, flatD])
    all_goals (try simp only [List.map_cons, List.map_nil, List.length_cons, List.length_nil, List.replicate, List.getElem?_cons_zero, List.getElem?_cons_succ, List.set_cons_zero, List.set_cons_succ, List.cons_append, List.nil_append, Option.map_some, Option.map_none, Nat.sub_self, Nat.reduceSub, Nat.reduceAdd, Nat.reduceLeDiff, Nat.reduceMul, Nat.zero_add, true_and, and_true, forall_const, Bool.false_eq_true, false_implies, implies_true, reduceCtorEq, forall_eq', Bool.true_eq_false, if_true, if_false, reduceIte, ite_true, ite_false, Bool.not_true, Bool.not_false, true_implies, List.length_map])
    all_goals simp only [Bool.or_false, Bool.or_true, Bool.and_true, Bool.and_false, Bool.or_self, Bool.and_self, Bool.false_or, Bool.true_or] at im
    all_goals refine up_of (sp_whole w fun z hz => ?_)
    all_goals (try simp only [aFun, startA, toAV, sNext, sSeq, sRet, sIf, sSet, sAsg, sOwn, sLst, sDrop, sFor, sFrz, sApp, sSetIx, sRaise0, sBrk, sCont, sTry, tryX, noEx, sPar2, sPar3, aVal, aVar, aBin, aTst, aTstB, onTru, onV, truthD, aUn, aNil, aCons, aStar, itemsA, datas, aTup, aLst, aOf, aAndT, aOrT, aNotT, aAndV, aOrV, aNotV, aIf, aChain, aCB, onSeq, fLen, fTuple, fList, fInt, fAbs, fAdd, fI, fI0, fSub, fLt, fLe, fGt, fGe, fIs, fNeg, aSl, aRev, aNoPart, aPart, aLc, aYes, aFz, aFzT, frzA, frzV, aSeq, aRng1, aRng2, aZip, aEnumT, aEnumL, agName, agNil, agCons, agTup, wipeA, aCall, aCallK, flatD])
    all_goals rw [show PyData.tuple [.int 0, .int own] = rowD [some 0, some own] from rfl, up_iff (sp_plus [some 0, some own] z (by show 2 ≤ 1000; omega)), hin, im, rep_b, rep_b, fNe_str, beq_self_eq_true]
    all_goals exact ⟨fun z => (by cases z), fun _ => ih _ _⟩
theorem ints_paired {c : Nat} {xs out : List PyData} (h : Paired (fun _ q => ∃ i : Int, q = .int i ∧ i.natAbs ≤ c * BN) xs out) : ∃ ns : List Int, out = ns.map .int ∧ ns.length = xs.length ∧ ∀ i ∈ ns, i.natAbs ≤ c * BN := by
  obtain ⟨ns, rfl, hR⟩ := paired_map (d := PyData.int) (S := fun _ (i : Int) => i.natAbs ≤ c * BN) (fun x q ⟨i, e, k⟩ => ⟨i, e, k⟩) h
  refine ⟨ns, rfl, (Paired.length hR).symm, fun i hi => ?_⟩
  obtain ⟨k, hk⟩ := List.mem_iff_getElem?.mp hi
  have hl := (List.getElem?_eq_some_iff.mp hk).1
  obtain ⟨y, hy, z⟩ := paired_at hR (i := k) (List.getElem?_eq_getElem (by rw [Paired.length hR]; exact hl))
  rw [hk] at hy
  cases hy
  exact z
theorem intsD_map : ∀ ns : List Int, intsD (ns.map .int) = some ns
  | [] => rfl
  | n :: ns => by rw [List.map_cons]; unfold intsD; rw [intsD_map ns]; rfl
theorem ends_of {ms : List Int} (h : ms.Pairwise (· ≤ ·)) (hn : ms ≠ []) : ∃ lo hi, ms[0]? = some lo ∧ ms[ms.length - 1]? = some hi ∧ lo ∈ ms ∧ hi ∈ ms ∧ (∀ l ∈ ms, lo ≤ l) ∧ ∀ l ∈ ms, l ≤ hi := by
  have hz : 0 < ms.length := List.length_pos_iff.mpr hn
  refine ⟨ms[0], ms[ms.length - 1], List.getElem?_eq_getElem hz, List.getElem?_eq_getElem (by omega), List.getElem_mem _, List.getElem_mem _, fun l hl => ?_, fun l hl => ?_⟩
  · obtain ⟨i, hi, rfl⟩ := List.mem_iff_getElem.mp hl
    by_cases h0 : i = 0
    · subst h0; exact Int.le_refl _
    · exact List.pairwise_iff_getElem.mp h 0 i hz hi (by omega)
  · obtain ⟨i, hi, rfl⟩ := List.mem_iff_getElem.mp hl
    by_cases h0 : i = ms.length - 1
    · subst h0; exact Int.le_refl _
    · exact List.pairwise_iff_getElem.mp h i (ms.length - 1) hi (by omega) (by omega)
theorem fIx_last {ms : List Int} {hi : Int} (h : ms[ms.length - 1]? = some hi) {Q : AK} : fIx (.v (.list (ms.map .int))) (.v (.int (-1))) Q ↔ Q (.v (.int hi)) := ix_of (Q := fun q => Q (.v q)) (by
  have hz := (List.getElem?_eq_some_iff.mp h).1
  unfold atI ixN
  rw [if_neg (by omega), List.length_map, if_pos (by omega)]
  show (ms.map PyData.int)[_]? = _
  rw [show ((-1 : Int) + (ms.length : Nat)).toNat = ms.length - 1 by omega, List.getElem?_map, h]
  rfl)
theorem more_pick (e : Nat) (he : e < 4) (z1 z2 : Int) : ∃ M : List Row, (∀ Q : AK, fIx (.v (.list [.list [], .list [.tuple [.int z1, .none]], .list [.tuple [.none, .int z2]], .list [.tuple [.int 0, .none], .tuple [.none, .int 0]]])) (.v (.int (e : Nat))) Q ↔ Q (.v (.list (M.map rowD)))) ∧
    (∀ r ∈ M, (e ∈ [1, 3] ∧ ∃ z, r = [some z, none]) ∨ (e ∈ [2, 3] ∧ ∃ z, r = [none, some z])) ∧ (e ∈ [1, 3] → ∃ z, [some z, none] ∈ M) ∧ (e ∈ [2, 3] → ∃ z, [none, some z] ∈ M) ∧ M.length ≤ 2 := by
  have h4 : e = 0 ∨ e = 1 ∨ e = 2 ∨ e = 3 := by omega
  rcases h4 with rfl | rfl | rfl | rfl
  · exact ⟨[], fun Q => ix_of (Q := fun q => Q (.v q)) rfl, fun r hr => by simp at hr, fun z => by simp at z, fun z => by simp at z, by simp⟩
  · exact ⟨[[some z1, none]], fun Q => ix_of (Q := fun q => Q (.v q)) rfl, fun r hr => .inl ⟨by simp, z1, List.mem_singleton.mp hr⟩, fun _ => ⟨z1, by simp⟩, fun z => by simp at z, by simp⟩
  · exact ⟨[[none, some z2]], fun Q => ix_of (Q := fun q => Q (.v q)) rfl, fun r hr => .inr ⟨by simp, z2, List.mem_singleton.mp hr⟩, fun z => by simp at z, fun _ => ⟨z2, by simp⟩, by simp⟩
  · refine ⟨[[some 0, none], [none, some 0]], fun Q => ix_of (Q := fun q => Q (.v q)) rfl, fun r hr => ?_, fun _ => ⟨0, by simp⟩, fun _ => ⟨0, by simp⟩, by simp⟩
    simp only [List.mem_cons, List.mem_nil_iff, or_false] at hr
    rcases hr with rfl | rfl
    · exact .inl ⟨by simp, 0, rfl⟩
    · exact .inr ⟨by simp, 0, rfl⟩
theorem sp_two {a b : Int} (w : Wd a b) {Q : PyData → Prop} {E : AXK} (k : Q (.bool true)) : A_law_of_two [.urn, .v (wdD a b)] Q E := by
  simp only [A_law_of_two, S_law_of_two]
  (simp only [aFun, startA, toAV, sNext, sSeq, sRet, sIf, sSet, sAsg, sOwn, sLst, sDrop, sFor, sFrz, sApp, sSetIx, sRaise0, sBrk, sCont, sTry, tryX, noEx, sPar2, sPar3, aVal, aVar, aBin, aTst, aTstB, onTru, onV, truthD, aUn, aNil, aCons, aStar, itemsA, datas, aTup, aLst, aOf, aAndT, aOrT, aNotT, aAndV, aOrV, aNotV, aIf, aChain, aCB, onSeq, fLen, fTuple, fList, fInt, fAbs, fAdd, fI, fI0, fSub, fLt, fLe, fGt, fGe, fIs, fNeg, aSl, aRev, aNoPart, aPart, aLc, aYes, aFz, aFzT, frzA, frzV, aSeq, aRng1, aRng2, aZip, aEnumT, aEnumL, agName, agNil, agCons, agTup, wipeA, aCall, aCallK, flatD]; (try simp only [List.map_cons, List.map_nil, List.length_cons, List.length_nil, List.replicate, List.getElem?_cons_zero, List.getElem?_cons_succ, List.set_cons_zero, List.set_cons_succ, List.cons_append, List.nil_append, Option.map_some, Option.map_none, Nat.sub_self, Nat.reduceSub, Nat.reduceAdd, Nat.reduceLeDiff, Nat.reduceMul, Nat.zero_add, true_and, and_true, forall_const, Bool.false_eq_true, false_implies, implies_true, reduceCtorEq, forall_eq', Bool.true_eq_false, if_true, if_false, reduceIte, ite_true, ite_false, Bool.not_true, Bool.not_false, true_implies, List.length_map]); (try simp only [aFun, startA, toAV, sNext, sSeq, sRet, sIf, sSet, sAsg, sOwn, sLst, sDrop, sFor, sFrz, sApp, sSetIx, sRaise0, sBrk, sCont, sTry, tryX, noEx, sPar2, sPar3, aVal, aVar, aBin, aTst, aTstB, onTru, onV, truthD, aUn, aNil, aCons, aStar, itemsA, datas, aTup, aLst, aOf, aAndT, aOrT, aNotT, aAndV, aOrV, aNotV, aIf, aChain, aCB, onSeq, fLen, fTuple, fList, fInt, fAbs, fAdd, fI, fI0, fSub, fLt, fLe, fGt, fGe, fIs, fNeg, aSl, aRev, aNoPart, aPart, aLc, aYes, aFz, aFzT, frzA, frzV, aSeq, aRng1, aRng2, aZip, aEnumT, aEnumL, agName, agNil, agCons, agTup, wipeA, aCall, aCallK, flatD]); (try simp only [List.map_cons, List.map_nil, List.length_cons, List.length_nil, List.replicate, List.getElem?_cons_zero, List.getElem?_cons_succ, List.set_cons_zero, List.set_cons_succ, List.cons_append, List.nil_append, Option.map_some, Option.map_none, Nat.sub_self, Nat.reduceSub, Nat.reduceAdd, Nat.reduceLeDiff, Nat.reduceMul, Nat.zero_add, true_and, and_true, forall_const, Bool.false_eq_true, false_implies, implies_true, reduceCtorEq, forall_eq', Bool.true_eq_false, if_true, if_false, reduceIte, ite_true, ite_false, Bool.not_true, Bool.not_false, true_implies, List.length_map]))
  refine up_take (by omega) (by omega) fun m m0 m1 => ?_
  simp only [aFun, startA, toAV, sNext, sSeq, sRet, sIf, sSet, sAsg, sOwn, sLst, sDrop, sFor, sFrz, sApp, sSetIx, sRaise0, sBrk, sCont, sTry, tryX, noEx, sPar2, sPar3, aVal, aVar, aBin, aTst, aTstB, onTru, onV, truthD, aUn, aNil, aCons, aStar, itemsA, datas, aTup, aLst, aOf, aAndT, aOrT, aNotT, aAndV, aOrV, aNotV, aIf, aChain, aCB, onSeq, fLen, fTuple, fList, fInt, fAbs, fAdd, fI, fI0, fSub, fLt, fLe, fGt, fGe, fIs, fNeg, aSl, aRev, aNoPart, aPart, aLc, aYes, aFz, aFzT, frzA, frzV, aSeq, aRng1, aRng2, aZip, aEnumT, aEnumL, agName, agNil, agCons, agTup, wipeA, aCall, aCallK, flatD, List.map_cons, List.map_nil, List.length_cons, List.length_nil, List.replicate, List.getElem?_cons_zero, List.getElem?_cons_succ, List.set_cons_zero, List.set_cons_succ, List.cons_append, List.nil_append, Option.map_some, Option.map_none, Nat.sub_self, Nat.reduceSub, Nat.reduceAdd, Nat.reduceLeDiff, Nat.reduceMul, Nat.zero_add, true_and, and_true, forall_const, Bool.false_eq_true, false_implies, implies_true, reduceCtorEq, forall_eq', Bool.true_eq_false, if_true, if_false, reduceIte, ite_true, ite_false, Bool.not_true, Bool.not_false, true_implies, List.length_map]
  have hg : RgB (1 + m) := ⟨by omega, by omega⟩
  refine ⟨hg, by simp only [rangeD, List.length_map, List.length_range]; omega, lcGo_all (fun x q => ∃ i : Int, q = .int i ∧ i.natAbs ≤ 2 * BN) _ _ (fun x hx R hR => ?_) fun out hout => ?_⟩
  · simp only [aFun, startA, toAV, sNext, sSeq, sRet, sIf, sSet, sAsg, sOwn, sLst, sDrop, sFor, sFrz, sApp, sSetIx, sRaise0, sBrk, sCont, sTry, tryX, noEx, sPar2, sPar3, aVal, aVar, aBin, aTst, aTstB, onTru, onV, truthD, aUn, aNil, aCons, aStar, itemsA, datas, aTup, aLst, aOf, aAndT, aOrT, aNotT, aAndV, aOrV, aNotV, aIf, aChain, aCB, onSeq, fLen, fTuple, fList, fInt, fAbs, fAdd, fI, fI0, fSub, fLt, fLe, fGt, fGe, fIs, fNeg, aSl, aRev, aNoPart, aPart, aLc, aYes, aFz, aFzT, frzA, frzV, aSeq, aRng1, aRng2, aZip, aEnumT, aEnumL, agName, agNil, agCons, agTup, wipeA, aCall, aCallK, flatD, List.map_cons, List.map_nil, List.length_cons, List.length_nil, List.replicate, List.getElem?_cons_zero, List.getElem?_cons_succ, List.set_cons_zero, List.set_cons_succ, List.cons_append, List.nil_append, Option.map_some, Option.map_none, Nat.sub_self, Nat.reduceSub, Nat.reduceAdd, Nat.reduceLeDiff, Nat.reduceMul, Nat.zero_add, true_and, and_true, forall_const, Bool.false_eq_true, false_implies, implies_true, reduceCtorEq, forall_eq', Bool.true_eq_false, if_true, if_false, reduceIte, ite_true, ite_false, Bool.not_true, Bool.not_false, true_implies, List.length_map]
    refine up_of (sp_whole w fun z hz => ?_)
    exact hR _ ⟨z, rfl, hz⟩
  rw [List.nil_append]
  obtain ⟨ns, rfl, hl, hb⟩ := ints_paired hout
  simp only [rangeD, List.length_map, List.length_range] at hl
  simp only [fSorted, onInts, intsD_map]
  intro ms hp hs
  have hlm : ms.length = (1 + m).toNat := by rw [hp.length_eq, hl]
  obtain ⟨lo, hi, g0, g1, l0, h0, l1, h1⟩ := ends_of hs (fun z => by rw [z] at hlm; simp at hlm; omega)
  simp only [aFun, startA, toAV, sNext, sSeq, sRet, sIf, sSet, sAsg, sOwn, sLst, sDrop, sFor, sFrz, sApp, sSetIx, sRaise0, sBrk, sCont, sTry, tryX, noEx, sPar2, sPar3, aVal, aVar, aBin, aTst, aTstB, onTru, onV, truthD, aUn, aNil, aCons, aStar, itemsA, datas, aTup, aLst, aOf, aAndT, aOrT, aNotT, aAndV, aOrV, aNotV, aIf, aChain, aCB, onSeq, fLen, fTuple, fList, fInt, fAbs, fAdd, fI, fI0, fSub, fLt, fLe, fGt, fGe, fIs, fNeg, aSl, aRev, aNoPart, aPart, aLc, aYes, aFz, aFzT, frzA, frzV, aSeq, aRng1, aRng2, aZip, aEnumT, aEnumL, agName, agNil, agCons, agTup, wipeA, aCall, aCallK, flatD, List.map_cons, List.map_nil, List.length_cons, List.length_nil, List.replicate, List.getElem?_cons_zero, List.getElem?_cons_succ, List.set_cons_zero, List.set_cons_succ, List.cons_append, List.nil_append, Option.map_some, Option.map_none, Nat.sub_self, Nat.reduceSub, Nat.reduceAdd, Nat.reduceLeDiff, Nat.reduceMul, Nat.zero_add, true_and, and_true, forall_const, Bool.false_eq_true, false_implies, implies_true, reduceCtorEq, forall_eq', Bool.true_eq_false, if_true, if_false, reduceIte, ite_true, ite_false, Bool.not_true, Bool.not_false, true_implies, List.length_map]
  refine ⟨by omega, lcGo_all (fun x q => ∃ (i : Int) (c : Int), x = .int i ∧ q = rowD [some c, some (i + c)]) _ _ (fun x hx R hR => ?_) fun out2 hout2 => ?_⟩
  · obtain ⟨i, hi, rfl⟩ := List.mem_map.mp hx
    simp only [aFun, startA, toAV, sNext, sSeq, sRet, sIf, sSet, sAsg, sOwn, sLst, sDrop, sFor, sFrz, sApp, sSetIx, sRaise0, sBrk, sCont, sTry, tryX, noEx, sPar2, sPar3, aVal, aVar, aBin, aTst, aTstB, onTru, onV, truthD, aUn, aNil, aCons, aStar, itemsA, datas, aTup, aLst, aOf, aAndT, aOrT, aNotT, aAndV, aOrV, aNotV, aIf, aChain, aCB, onSeq, fLen, fTuple, fList, fInt, fAbs, fAdd, fI, fI0, fSub, fLt, fLe, fGt, fGe, fIs, fNeg, aSl, aRev, aNoPart, aPart, aLc, aYes, aFz, aFzT, frzA, frzV, aSeq, aRng1, aRng2, aZip, aEnumT, aEnumL, agName, agNil, agCons, agTup, wipeA, aCall, aCallK, flatD, List.map_cons, List.map_nil, List.length_cons, List.length_nil, List.replicate, List.getElem?_cons_zero, List.getElem?_cons_succ, List.set_cons_zero, List.set_cons_succ, List.cons_append, List.nil_append, Option.map_some, Option.map_none, Nat.sub_self, Nat.reduceSub, Nat.reduceAdd, Nat.reduceLeDiff, Nat.reduceMul, Nat.zero_add, true_and, and_true, forall_const, Bool.false_eq_true, false_implies, implies_true, reduceCtorEq, forall_eq', Bool.true_eq_false, if_true, if_false, reduceIte, ite_true, ite_false, Bool.not_true, Bool.not_false, true_implies, List.length_map]
    refine up_of (sp_whole w fun z hz => ?_)
    rw [show PyData.tuple [.int 0, .int i] = rowD [some 0, some i] from rfl, up_iff (sp_plus [some 0, some i] z (by show 2 ≤ 1000; omega))]
    refine hR _ ⟨i, z, rfl, ?_⟩
    show rowD [some (0 + z), some (i + z)] = _
    rw [Int.zero_add]
  rw [List.nil_append]
  obtain ⟨L2, rfl, hL2⟩ := paired_map (d := rowD) (S := fun x r => ∃ (i c : Int), x = .int i ∧ r = [some c, some (i + c)]) (fun x q ⟨i, c, e1, e2⟩ => ⟨_, e2, i, c, e1, rfl⟩) hout2
  have hL2l : L2.length = ms.length := by rw [← Paired.length hL2, List.length_map]
  refine up_take (by omega) (by omega) fun e e0 e1 => ?_
  obtain ⟨e, rfl⟩ : ∃ i : Nat, e = (i : Int) := ⟨e.toNat, by omega⟩
  refine up_of (sp_whole w fun z1 hz1 => ?_)
  try simp only [aFun, startA, toAV, sNext, sSeq, sRet, sIf, sSet, sAsg, sOwn, sLst, sDrop, sFor, sFrz, sApp, sSetIx, sRaise0, sBrk, sCont, sTry, tryX, noEx, sPar2, sPar3, aVal, aVar, aBin, aTst, aTstB, onTru, onV, truthD, aUn, aNil, aCons, aStar, itemsA, datas, aTup, aLst, aOf, aAndT, aOrT, aNotT, aAndV, aOrV, aNotV, aIf, aChain, aCB, onSeq, fLen, fTuple, fList, fInt, fAbs, fAdd, fI, fI0, fSub, fLt, fLe, fGt, fGe, fIs, fNeg, aSl, aRev, aNoPart, aPart, aLc, aYes, aFz, aFzT, frzA, frzV, aSeq, aRng1, aRng2, aZip, aEnumT, aEnumL, agName, agNil, agCons, agTup, wipeA, aCall, aCallK, flatD]
  refine up_of (sp_whole w fun z2 hz2 => ?_)
  try simp only [aFun, startA, toAV, sNext, sSeq, sRet, sIf, sSet, sAsg, sOwn, sLst, sDrop, sFor, sFrz, sApp, sSetIx, sRaise0, sBrk, sCont, sTry, tryX, noEx, sPar2, sPar3, aVal, aVar, aBin, aTst, aTstB, onTru, onV, truthD, aUn, aNil, aCons, aStar, itemsA, datas, aTup, aLst, aOf, aAndT, aOrT, aNotT, aAndV, aOrV, aNotV, aIf, aChain, aCB, onSeq, fLen, fTuple, fList, fInt, fAbs, fAdd, fI, fI0, fSub, fLt, fLe, fGt, fGe, fIs, fNeg, aSl, aRev, aNoPart, aPart, aLc, aYes, aFz, aFzT, frzA, frzV, aSeq, aRng1, aRng2, aZip, aEnumT, aEnumL, agName, agNil, agCons, agTup, wipeA, aCall, aCallK, flatD]
  obtain ⟨M, pk, M0, M1, M2, M3⟩ := more_pick e (by omega) z1 z2
  rw [pk]
  have hT : Tw ms e (M ++ L2.reverse) lo hi := ⟨fun r hr => by
    rcases List.mem_append.mp hr with hr | hr
    · exact .inr (M0 r hr)
    · rw [List.mem_reverse] at hr
      obtain ⟨k, hk⟩ := List.mem_iff_getElem?.mp hr
      have hl := (List.getElem?_eq_some_iff.mp hk).1
      have hkm : k < ms.length := by omega
      obtain ⟨y, hy, i, c, f1, f2⟩ := paired_at hL2 (i := k) (x := .int ms[k]) (by rw [List.getElem?_map, List.getElem?_eq_getElem hkm]; rfl)
      rw [hk] at hy
      cases hy
      cases f1
      exact .inl ⟨_, c, List.getElem_mem hkm, f2⟩, fun l hl => by
    obtain ⟨k, hkm, rfl⟩ := List.mem_iff_getElem.mp hl
    obtain ⟨y, hy, i, c, f1, f2⟩ := paired_at hL2 (i := k) (x := .int ms[k]) (by rw [List.getElem?_map, List.getElem?_eq_getElem hkm]; rfl)
    cases f1
    refine ⟨c, List.mem_append.mpr (.inr (List.mem_reverse.mpr ?_))⟩
    rw [← f2]
    exact List.mem_of_getElem? hy, fun z => (M1 z).imp fun _ h => List.mem_append.mpr (.inl h), fun z => (M2 z).imp fun _ h => List.mem_append.mpr (.inl h), l0, h0, l1, h1⟩
  have i0 : ∀ Q : AK, fIx (.v (.list (ms.map .int))) (.v (.int 0)) Q ↔ Q (.v (.int lo)) := fun Q => fIx_lst (n := 0) g0
  have i1 : ∀ Q : AK, fIx (.v (.list (ms.map .int))) (.v (.int (-1))) Q ↔ Q (.v (.int hi)) := fun Q => fIx_last g1
  rw [← List.map_reverse]
  simp only [aFun, startA, toAV, sNext, sSeq, sRet, sIf, sSet, sAsg, sOwn, sLst, sDrop, sFor, sFrz, sApp, sSetIx, sRaise0, sBrk, sCont, sTry, tryX, noEx, sPar2, sPar3, aVal, aVar, aBin, aTst, aTstB, onTru, onV, truthD, aUn, aNil, aCons, aStar, itemsA, datas, aTup, aLst, aOf, aAndT, aOrT, aNotT, aAndV, aOrV, aNotV, aIf, aChain, aCB, onSeq, fLen, fTuple, fList, fInt, fAbs, fAdd, fI, fI0, fSub, fLt, fLe, fGt, fGe, fIs, fNeg, aSl, aRev, aNoPart, aPart, aLc, aYes, aFz, aFzT, frzA, frzV, aSeq, aRng1, aRng2, aZip, aEnumT, aEnumL, agName, agNil, agCons, agTup, wipeA, aCall, aCallK, flatD]
  simp only [List.map_cons, List.map_nil, List.length_cons, List.length_nil, List.replicate, List.getElem?_cons_zero, List.getElem?_cons_succ, List.set_cons_zero, List.set_cons_succ, List.cons_append, List.nil_append, Option.map_some, Option.map_none, Nat.sub_self, Nat.reduceSub, Nat.reduceAdd, Nat.reduceLeDiff, Nat.reduceMul, Nat.zero_add, true_and, and_true, forall_const, Bool.false_eq_true, false_implies, implies_true, reduceCtorEq, forall_eq', Bool.true_eq_false, if_true, if_false, reduceIte, ite_true, ite_false, Bool.not_true, Bool.not_false, true_implies, List.length_map]
  rw [← List.map_append]
  refine ⟨by rw [List.length_reverse]; omega, ?_⟩
  rw [i0, i1, i0]
  try simp only [aFun, startA, toAV, sNext, sSeq, sRet, sIf, sSet, sAsg, sOwn, sLst, sDrop, sFor, sFrz, sApp, sSetIx, sRaise0, sBrk, sCont, sTry, tryX, noEx, sPar2, sPar3, aVal, aVar, aBin, aTst, aTstB, onTru, onV, truthD, aUn, aNil, aCons, aStar, itemsA, datas, aTup, aLst, aOf, aAndT, aOrT, aNotT, aAndV, aOrV, aNotV, aIf, aChain, aCB, onSeq, fLen, fTuple, fList, fInt, fAbs, fAdd, fI, fI0, fSub, fLt, fLe, fGt, fGe, fIs, fNeg, aSl, aRev, aNoPart, aPart, aLc, aYes, aFz, aFzT, frzA, frzV, aSeq, aRng1, aRng2, aZip, aEnumT, aEnumL, agName, agNil, agCons, agTup, wipeA, aCall, aCallK, flatD]
  rw [i1]
  try simp only [aFun, startA, toAV, sNext, sSeq, sRet, sIf, sSet, sAsg, sOwn, sLst, sDrop, sFor, sFrz, sApp, sSetIx, sRaise0, sBrk, sCont, sTry, tryX, noEx, sPar2, sPar3, aVal, aVar, aBin, aTst, aTstB, onTru, onV, truthD, aUn, aNil, aCons, aStar, itemsA, datas, aTup, aLst, aOf, aAndT, aOrT, aNotT, aAndV, aOrV, aNotV, aIf, aChain, aCB, onSeq, fLen, fTuple, fList, fInt, fAbs, fAdd, fI, fI0, fSub, fLt, fLe, fGt, fGe, fIs, fNeg, aSl, aRev, aNoPart, aPart, aLc, aYes, aFz, aFzT, frzA, frzV, aSeq, aRng1, aRng2, aZip, aEnumT, aEnumL, agName, agNil, agCons, agTup, wipeA, aCall, aCallK, flatD]
  rw [i0]
  refine ⟨by decide +kernel, ?_⟩
  try simp only [aFun, startA, toAV, sNext, sSeq, sRet, sIf, sSet, sAsg, sOwn, sLst, sDrop, sFor, sFrz, sApp, sSetIx, sRaise0, sBrk, sCont, sTry, tryX, noEx, sPar2, sPar3, aVal, aVar, aBin, aTst, aTstB, onTru, onV, truthD, aUn, aNil, aCons, aStar, itemsA, datas, aTup, aLst, aOf, aAndT, aOrT, aNotT, aAndV, aOrV, aNotV, aIf, aChain, aCB, onSeq, fLen, fTuple, fList, fInt, fAbs, fAdd, fI, fI0, fSub, fLt, fLe, fGt, fGe, fIs, fNeg, aSl, aRev, aNoPart, aPart, aLc, aYes, aFz, aFzT, frzA, frzV, aSeq, aRng1, aRng2, aZip, aEnumT, aEnumL, agName, agNil, agCons, agTup, wipeA, aCall, aCallK, flatD]
  rw [i1]
  refine ⟨by decide +kernel, ?_⟩
  try simp only [aFun, startA, toAV, sNext, sSeq, sRet, sIf, sSet, sAsg, sOwn, sLst, sDrop, sFor, sFrz, sApp, sSetIx, sRaise0, sBrk, sCont, sTry, tryX, noEx, sPar2, sPar3, aVal, aVar, aBin, aTst, aTstB, onTru, onV, truthD, aUn, aNil, aCons, aStar, itemsA, datas, aTup, aLst, aOf, aAndT, aOrT, aNotT, aAndV, aOrV, aNotV, aIf, aChain, aCB, onSeq, fLen, fTuple, fList, fInt, fAbs, fAdd, fI, fI0, fSub, fLt, fLe, fGt, fGe, fIs, fNeg, aSl, aRev, aNoPart, aPart, aLc, aYes, aFz, aFzT, frzA, frzV, aSeq, aRng1, aRng2, aZip, aEnumT, aEnumL, agName, agNil, agCons, agTup, wipeA, aCall, aCallK, flatD]
  try simp only [List.map_cons, List.map_nil, List.length_cons, List.length_nil, List.replicate, List.getElem?_cons_zero, List.getElem?_cons_succ, List.set_cons_zero, List.set_cons_succ, List.cons_append, List.nil_append, Option.map_some, Option.map_none, Nat.sub_self, Nat.reduceSub, Nat.reduceAdd, Nat.reduceLeDiff, Nat.reduceMul, Nat.zero_add, true_and, and_true, forall_const, Bool.false_eq_true, false_implies, implies_true, reduceCtorEq, forall_eq', Bool.true_eq_false, if_true, if_false, reduceIte, ite_true, ite_false, Bool.not_true, Bool.not_false, true_implies, List.length_map]
  rw [i0, i1]
  try simp only [aFun, startA, toAV, sNext, sSeq, sRet, sIf, sSet, sAsg, sOwn, sLst, sDrop, sFor, sFrz, sApp, sSetIx, sRaise0, sBrk, sCont, sTry, tryX, noEx, sPar2, sPar3, aVal, aVar, aBin, aTst, aTstB, onTru, onV, truthD, aUn, aNil, aCons, aStar, itemsA, datas, aTup, aLst, aOf, aAndT, aOrT, aNotT, aAndV, aOrV, aNotV, aIf, aChain, aCB, onSeq, fLen, fTuple, fList, fInt, fAbs, fAdd, fI, fI0, fSub, fLt, fLe, fGt, fGe, fIs, fNeg, aSl, aRev, aNoPart, aPart, aLc, aYes, aFz, aFzT, frzA, frzV, aSeq, aRng1, aRng2, aZip, aEnumT, aEnumL, agName, agNil, agCons, agTup, wipeA, aCall, aCallK, flatD]
  try simp only [List.map_cons, List.map_nil, List.length_cons, List.length_nil, List.replicate, List.getElem?_cons_zero, List.getElem?_cons_succ, List.set_cons_zero, List.set_cons_succ, List.cons_append, List.nil_append, Option.map_some, Option.map_none, Nat.sub_self, Nat.reduceSub, Nat.reduceAdd, Nat.reduceLeDiff, Nat.reduceMul, Nat.zero_add, true_and, and_true, forall_const, Bool.false_eq_true, false_implies, implies_true, reduceCtorEq, forall_eq', Bool.true_eq_false, if_true, if_false, reduceIte, ite_true, ite_false, Bool.not_true, Bool.not_false, true_implies, List.length_map]
  refine ⟨by unfold DivB; decide, ?_⟩
  refine up_of (sp_whole w fun z3 hz3 => ?_)
  try simp only [aFun, startA, toAV, sNext, sSeq, sRet, sIf, sSet, sAsg, sOwn, sLst, sDrop, sFor, sFrz, sApp, sSetIx, sRaise0, sBrk, sCont, sTry, tryX, noEx, sPar2, sPar3, aVal, aVar, aBin, aTst, aTstB, onTru, onV, truthD, aUn, aNil, aCons, aStar, itemsA, datas, aTup, aLst, aOf, aAndT, aOrT, aNotT, aAndV, aOrV, aNotV, aIf, aChain, aCB, onSeq, fLen, fTuple, fList, fInt, fAbs, fAdd, fI, fI0, fSub, fLt, fLe, fGt, fGe, fIs, fNeg, aSl, aRev, aNoPart, aPart, aLc, aYes, aFz, aFzT, frzA, frzV, aSeq, aRng1, aRng2, aZip, aEnumT, aEnumL, agName, agNil, agCons, agTup, wipeA, aCall, aCallK, flatD]
  try simp only [List.map_cons, List.map_nil, List.length_cons, List.length_nil, List.replicate, List.getElem?_cons_zero, List.getElem?_cons_succ, List.set_cons_zero, List.set_cons_succ, List.cons_append, List.nil_append, Option.map_some, Option.map_none, Nat.sub_self, Nat.reduceSub, Nat.reduceAdd, Nat.reduceLeDiff, Nat.reduceMul, Nat.zero_add, true_and, and_true, forall_const, Bool.false_eq_true, false_implies, implies_true, reduceCtorEq, forall_eq', Bool.true_eq_false, if_true, if_false, reduceIte, ite_true, ite_false, Bool.not_true, Bool.not_false, true_implies, List.length_map]
  refine two_go w hT i0 i1 (fun o5 o9 => ?_) [lo, hi, lo - 1, hi + 1, lo - 10 ^ Int.toNat 9, hi + 10 ^ Int.toNat 9, (lo + hi).fdiv 2, z3] _ _
  simp only [aFun, startA, toAV, sNext, sSeq, sRet, sIf, sSet, sAsg, sOwn, sLst, sDrop, sFor, sFrz, sApp, sSetIx, sRaise0, sBrk, sCont, sTry, tryX, noEx, sPar2, sPar3, aVal, aVar, aBin, aTst, aTstB, onTru, onV, truthD, aUn, aNil, aCons, aStar, itemsA, datas, aTup, aLst, aOf, aAndT, aOrT, aNotT, aAndV, aOrV, aNotV, aIf, aChain, aCB, onSeq, fLen, fTuple, fList, fInt, fAbs, fAdd, fI, fI0, fSub, fLt, fLe, fGt, fGe, fIs, fNeg, aSl, aRev, aNoPart, aPart, aLc, aYes, aFz, aFzT, frzA, frzV, aSeq, aRng1, aRng2, aZip, aEnumT, aEnumL, agName, agNil, agCons, agTup, wipeA, aCall, aCallK, flatD]
  simp only [List.map_cons, List.map_nil, List.length_cons, List.length_nil, List.replicate, List.getElem?_cons_zero, List.getElem?_cons_succ, List.set_cons_zero, List.set_cons_succ, List.cons_append, List.nil_append, Option.map_some, Option.map_none, Nat.sub_self, Nat.reduceSub, Nat.reduceAdd, Nat.reduceLeDiff, Nat.reduceMul, Nat.zero_add, true_and, and_true, forall_const, Bool.false_eq_true, false_implies, implies_true, reduceCtorEq, forall_eq', Bool.true_eq_false, if_true, if_false, reduceIte, ite_true, ite_false, Bool.not_true, Bool.not_false, true_implies, List.length_map]
  rw [show PyData.tuple [.int 7, .none] = rowD [some 7, none] from rfl, in_2 (tw_len hT) rfl ⟨0, 7, rfl⟩, tw_one hT]
  rw [show PyData.tuple [.none, .int (-7)] = rowD [none, some (-7)] from rfl, in_2 (tw_len hT) rfl ⟨1, -7, rfl⟩, tw_two hT, rep_two, fIn_13, fIn_23]
  try simp only [aFun, startA, toAV, sNext, sSeq, sRet, sIf, sSet, sAsg, sOwn, sLst, sDrop, sFor, sFrz, sApp, sSetIx, sRaise0, sBrk, sCont, sTry, tryX, noEx, sPar2, sPar3, aVal, aVar, aBin, aTst, aTstB, onTru, onV, truthD, aUn, aNil, aCons, aStar, itemsA, datas, aTup, aLst, aOf, aAndT, aOrT, aNotT, aAndV, aOrV, aNotV, aIf, aChain, aCB, onSeq, fLen, fTuple, fList, fInt, fAbs, fAdd, fI, fI0, fSub, fLt, fLe, fGt, fGe, fIs, fNeg, aSl, aRev, aNoPart, aPart, aLc, aYes, aFz, aFzT, frzA, frzV, aSeq, aRng1, aRng2, aZip, aEnumT, aEnumL, agName, agNil, agCons, agTup, wipeA, aCall, aCallK, flatD]
  try simp only [List.map_cons, List.map_nil, List.length_cons, List.length_nil, List.replicate, List.getElem?_cons_zero, List.getElem?_cons_succ, List.set_cons_zero, List.set_cons_succ, List.cons_append, List.nil_append, Option.map_some, Option.map_none, Nat.sub_self, Nat.reduceSub, Nat.reduceAdd, Nat.reduceLeDiff, Nat.reduceMul, Nat.zero_add, true_and, and_true, forall_const, Bool.false_eq_true, false_implies, implies_true, reduceCtorEq, forall_eq', Bool.true_eq_false, if_true, if_false, reduceIte, ite_true, ite_false, Bool.not_true, Bool.not_false, true_implies, List.length_map]
  rw [rep_two, fEq_str, beq_self_eq_true]
  exact k
end K8

namespace K8
open PySem L2 RW RZ PySem.RW U AL
def S_law_3_r6 : AS := sSeq (sFor (aSeq (aVar 8)) (agName 10) S_law_1) (sSeq (sFor (aRng1 (aCons (aCB fMin (aCons (aCB fLen (aCons (aVar 6) aNil)) (aCons (aVal (.int 6)) aNil))) aNil)) (agName 11) S_law_2) (sSeq (sSet 13 (aCall A_law_row_of (aCons (aVar 1) (aCons (aBin fAdd (aVal (.int 1)) (aBin fMod (aCB fInt (aCons (aBin fAdd (aVar 4) (aCall A_law_take (aCons (aVar 1) (aCons (aVal (.int 3)) aNil)))) aNil)) (aVal (.int 4)))) (aCons (aVar 3) aNil))))) (sIf (aOrT (aNotT (aTst (aCall A_law_of_two (aCons (aVar 1) (aCons (aVar 3) aNil))))) (aNotT (aTst (aCall A_law_is_unfit (aCons (aVar 6) (aCons (aVar 4) (aCons (aVar 13) aNil))))))) (sRet (aVal (.bool false))) sNext)))
def S_law_3_r4 : AS := sSeq (sSet 8 (aOf (aLst (aCons (aCall A_law_row_of (aCons (aVar 1) (aCons (aVar 4) (aCons (aVar 3) aNil)))) (aCons (aCall A_law_row_of (aCons (aVar 1) (aCons (aVar 4) (aCons (aVar 3) aNil)))) aNil))))) (sSeq (sIf (aTstB (aBin (fEq true) (aVar 6) (aTup aNil))) (sSeq (sSet 9 (aCall A_law_made (aCons (aVar 1) (aCons (aVar 6) (aCons (aVar 3) aNil))))) (sSeq (sSet 8 (aBin fAdd (aVar 8) (aOf (aLst (aCons (aVar 9) (aCons (aCall A_law_near (aCons (aVar 1) (aCons (aVar 9) (aCons (aVar 3) aNil)))) (aCons (aCall A_law_near (aCons (aVar 1) (aCons (aVar 9) (aCons (aVar 3) aNil)))) aNil))))))) (sIf (aNotT (aTst (aCall A_law_is_made (aCons (aVar 6) (aCons (aVar 9) aNil))))) (sRet (aVal (.bool false))) sNext))) sNext) (S_law_3_r6))
theorem S_law_3_eq : S_law_3 = sSeq (sSet 3 (aOf (aLst (aCons (aCall A_law_one (aCons (aVar 1) (aCons (aOf (aLst (aCons (aVal (.int 0)) (aCons (aVal (.int 1)) (aCons (aVal (.int 2)) (aCons (aVal (.int 5)) (aCons (aVal (.int 60)) aNil))))))) aNil))) (aCons (aCall A_law_one (aCons (aVar 1) (aCons (aOf (aLst (aCons (aVal (.int 0)) (aCons (aVal (.int 0)) (aCons (aVal (.int 1)) (aCons (aBin fPow (aVal (.int 10)) (aVal (.int 9))) (aCons (aBin fPow (aVal (.int 10)) (aVal (.int 30))) (aCons (aBin fPow (aBin fPow (aVal (.int 10)) (aVal (.int 60))) (aVal (.int 14))) aNil)))))))) aNil))) aNil))))) (sSeq (sAsg (aTup (aCons (aBin fAdd (aVal (.int 1)) (aCall A_law_take (aCons (aVar 1) (aCons (aVal (.int 4)) aNil)))) (aCons (aCall A_law_one (aCons (aVar 1) (aCons (aOf (aLst (aCons (aVal (.int 0)) (aCons (aVal (.int 1)) (aCons (aVal (.int 2)) (aCons (aVal (.int 3)) (aCons (aVal (.int 4)) (aCons (aVal (.int 7)) (aCons (aVal (.int 9)) aNil))))))))) aNil))) aNil))) (agTup 2 (agCons (agName 4) (agCons (agName 5) agNil)))) (sSeq (sSet 6 (aCB fTuple (aCons (aOf (aLc [7] (aRng1 (aCons (aVar 5) aNil)) (agName 7) aYes (aCall A_law_row_of (aCons (aVar 1) (aCons (aVar 4) (aCons (aVar 3) aNil)))))) aNil))) (sSeq (sIf (aAndT (aTstB (aBin (fEq true) (aVar 6) (aTup aNil))) (aTstB (aBin (fEq false) (aCall A_law_take (aCons (aVar 1) (aCons (aVal (.int 2)) aNil))) (aVal (.int 0))))) (sSet 6 (aBin fAdd (aVar 6) (aTup (aCons (aCall A_law_plus (aCons (aBin fIx (aVar 6) (aCall A_law_take (aCons (aVar 1) (aCons (aVar 5) aNil)))) (aCons (aCall A_law_take (aCons (aVar 1) (aCons (aVal (.int 3)) aNil))) aNil))) aNil)))) sNext) (S_law_3_r4)))) := by unfold S_law_3 S_law_3_r4 S_law_3_r6; rfl

theorem right_go {a b : Int} {n : Nat} {rows : List Row} (w : Wd a b) (n0 : 1 ≤ n) (n1 : n ≤ 4) (hr : ∀ r ∈ rows, Rw n 3 r) (hk : rows.length ≤ 10) {D : AEnds} {x0 x2 x4 x5 x7 x8 x9 x11 x12 x13 : Option AV} (hn : ∀ o10, D.nx [x0, some .urn, x2, some (.dat (wdD a b)), x4, x5, some (.dat (rowsD rows)), x7, x8, x9, o10, x11, x12, x13]) : ∀ (ts : List Row) (_ : ∀ t ∈ ts, Rw n 9 t) (o10 : Option AV),
    forGo (agName 10) S_law_1 D (ts.map rowD) [x0, some .urn, x2, some (.dat (wdD a b)), x4, x5, some (.dat (rowsD rows)), x7, x8, x9, o10, x11, x12, x13]
  | [], _, o10 => hn _
  | t :: ts, ht, o10 => by
    have ih := right_go w n0 n1 hr hk hn ts (fun q hq => ht q (List.mem_cons_of_mem _ hq))
    rw [List.map_cons]
    unfold forGo
    generalize forGo (agName 10) S_law_1 D (ts.map rowD) = F at ih ⊢
    simp only [S_law_1]
    (simp only [aFun, startA, toAV, sNext, sSeq, sRet, sIf, sSet, sAsg, sOwn, sLst, sDrop, sFor, sFrz, sApp, sSetIx, sRaise0, sBrk, sCont, sTry, tryX, noEx, sPar2, sPar3, aVal, aVar, aBin, aTst, aTstB, onTru, onV, truthD, aUn, aNil, aCons, aStar, itemsA, datas, aTup, aLst, aOf, aAndT, aOrT, aNotT, aAndV, aOrV, aNotV, aIf, aChain, aCB, onSeq, fLen, fTuple, fList, fInt, fAbs, fAdd, fI, fI0, fSub, fLt, fLe, fGt, fGe, fIs, fNeg, aSl, aRev, aNoPart, aPart, aLc, aYes, aFz, aFzT, frzA, frzV, aSeq, aRng1, aRng2, aZip, aEnumT, aEnumL, agName, agNil, agCons, agTup, wipeA, aCall, aCallK, flatD]; (try simp only [List.map_cons, List.map_nil, List.length_cons, List.length_nil, List.replicate, List.getElem?_cons_zero, List.getElem?_cons_succ, List.set_cons_zero, List.set_cons_succ, List.cons_append, List.nil_append, Option.map_some, Option.map_none, Nat.sub_self, Nat.reduceSub, Nat.reduceAdd, Nat.reduceLeDiff, Nat.reduceMul, Nat.zero_add, true_and, and_true, forall_const, Bool.false_eq_true, false_implies, implies_true, reduceCtorEq, forall_eq', Bool.true_eq_false, if_true, if_false, reduceIte, ite_true, ite_false, Bool.not_true, Bool.not_false, true_implies, List.length_map]); (try simp only [aFun, startA, toAV, sNext, sSeq, sRet, sIf, sSet, sAsg, sOwn, sLst, sDrop, sFor, sFrz, sApp, sSetIx, sRaise0, sBrk, sCont, sTry, tryX, noEx, sPar2, sPar3, aVal, aVar, aBin, aTst, aTstB, onTru, onV, truthD, aUn, aNil, aCons, aStar, itemsA, datas, aTup, aLst, aOf, aAndT, aOrT, aNotT, aAndV, aOrV, aNotV, aIf, aChain, aCB, onSeq, fLen, fTuple, fList, fInt, fAbs, fAdd, fI, fI0, fSub, fLt, fLe, fGt, fGe, fIs, fNeg, aSl, aRev, aNoPart, aPart, aLc, aYes, aFz, aFzT, frzA, frzV, aSeq, aRng1, aRng2, aZip, aEnumT, aEnumL, agName, agNil, agCons, agTup, wipeA, aCall, aCallK, flatD]); (try simp only [List.map_cons, List.map_nil, List.length_cons, List.length_nil, List.replicate, List.getElem?_cons_zero, List.getElem?_cons_succ, List.set_cons_zero, List.set_cons_succ, List.cons_append, List.nil_append, Option.map_some, Option.map_none, Nat.sub_self, Nat.reduceSub, Nat.reduceAdd, Nat.reduceLeDiff, Nat.reduceMul, Nat.zero_add, true_and, and_true, forall_const, Bool.false_eq_true, false_implies, implies_true, reduceCtorEq, forall_eq', Bool.true_eq_false, if_true, if_false, reduceIte, ite_true, ite_false, Bool.not_true, Bool.not_false, true_implies, List.length_map]))
    refine up_of (sp_right w n0 n1 hr hk (ht t (List.mem_cons_self ..)) ?_)
    simp only [aFun, startA, toAV, sNext, sSeq, sRet, sIf, sSet, sAsg, sOwn, sLst, sDrop, sFor, sFrz, sApp, sSetIx, sRaise0, sBrk, sCont, sTry, tryX, noEx, sPar2, sPar3, aVal, aVar, aBin, aTst, aTstB, onTru, onV, truthD, aUn, aNil, aCons, aStar, itemsA, datas, aTup, aLst, aOf, aAndT, aOrT, aNotT, aAndV, aOrV, aNotV, aIf, aChain, aCB, onSeq, fLen, fTuple, fList, fInt, fAbs, fAdd, fI, fI0, fSub, fLt, fLe, fGt, fGe, fIs, fNeg, aSl, aRev, aNoPart, aPart, aLc, aYes, aFz, aFzT, frzA, frzV, aSeq, aRng1, aRng2, aZip, aEnumT, aEnumL, agName, agNil, agCons, agTup, wipeA, aCall, aCallK, flatD]
    simp only [List.map_cons, List.map_nil, List.length_cons, List.length_nil, List.replicate, List.getElem?_cons_zero, List.getElem?_cons_succ, List.set_cons_zero, List.set_cons_succ, List.cons_append, List.nil_append, Option.map_some, Option.map_none, Nat.sub_self, Nat.reduceSub, Nat.reduceAdd, Nat.reduceLeDiff, Nat.reduceMul, Nat.zero_add, true_and, and_true, forall_const, Bool.false_eq_true, false_implies, implies_true, reduceCtorEq, forall_eq', Bool.true_eq_false, if_true, if_false, reduceIte, ite_true, ite_false, Bool.not_true, Bool.not_false, true_implies, List.length_map]
    exact ih _
theorem at_go {a b : Int} {n : Nat} {rows : List Row} (n1 : n ≤ 4) (hr : ∀ r ∈ rows, Rw n 3 r) (hk : rows.length ≤ 10) {D : AEnds} {x0 x1 x2 x3 x5 x7 x8 x9 x10 x13 : Option AV} (hn : ∀ o11 o12, D.nx [x0, x1, x2, x3, some (.dat (.int (n : Nat))), x5, some (.dat (rowsD rows)), x7, x8, x9, x10, o11, o12, x13]) : ∀ (l : List PyData) (_ : ∀ q ∈ l, ∃ i : Nat, q = .int i ∧ i < rows.length) (o11 o12 : Option AV),
    forGo (agName 11) S_law_2 D l [x0, x1, x2, x3, some (.dat (.int (n : Nat))), x5, some (.dat (rowsD rows)), x7, x8, x9, x10, o11, o12, x13]
  | [], _, o11, o12 => hn _ _
  | q :: l, hl, o11, o12 => by
    have ih := at_go (a := a) (b := b) n1 hr hk hn l (fun q hq => hl q (List.mem_cons_of_mem _ hq))
    obtain ⟨i, rfl, hi⟩ := hl q (List.mem_cons_self ..)
    unfold forGo
    generalize forGo (agName 11) S_law_2 D l = F at ih ⊢
    simp only [S_law_2]
    (simp only [aFun, startA, toAV, sNext, sSeq, sRet, sIf, sSet, sAsg, sOwn, sLst, sDrop, sFor, sFrz, sApp, sSetIx, sRaise0, sBrk, sCont, sTry, tryX, noEx, sPar2, sPar3, aVal, aVar, aBin, aTst, aTstB, onTru, onV, truthD, aUn, aNil, aCons, aStar, itemsA, datas, aTup, aLst, aOf, aAndT, aOrT, aNotT, aAndV, aOrV, aNotV, aIf, aChain, aCB, onSeq, fLen, fTuple, fList, fInt, fAbs, fAdd, fI, fI0, fSub, fLt, fLe, fGt, fGe, fIs, fNeg, aSl, aRev, aNoPart, aPart, aLc, aYes, aFz, aFzT, frzA, frzV, aSeq, aRng1, aRng2, aZip, aEnumT, aEnumL, agName, agNil, agCons, agTup, wipeA, aCall, aCallK, flatD]; (try simp only [List.map_cons, List.map_nil, List.length_cons, List.length_nil, List.replicate, List.getElem?_cons_zero, List.getElem?_cons_succ, List.set_cons_zero, List.set_cons_succ, List.cons_append, List.nil_append, Option.map_some, Option.map_none, Nat.sub_self, Nat.reduceSub, Nat.reduceAdd, Nat.reduceLeDiff, Nat.reduceMul, Nat.zero_add, true_and, and_true, forall_const, Bool.false_eq_true, false_implies, implies_true, reduceCtorEq, forall_eq', Bool.true_eq_false, if_true, if_false, reduceIte, ite_true, ite_false, Bool.not_true, Bool.not_false, true_implies, List.length_map]); (try simp only [aFun, startA, toAV, sNext, sSeq, sRet, sIf, sSet, sAsg, sOwn, sLst, sDrop, sFor, sFrz, sApp, sSetIx, sRaise0, sBrk, sCont, sTry, tryX, noEx, sPar2, sPar3, aVal, aVar, aBin, aTst, aTstB, onTru, onV, truthD, aUn, aNil, aCons, aStar, itemsA, datas, aTup, aLst, aOf, aAndT, aOrT, aNotT, aAndV, aOrV, aNotV, aIf, aChain, aCB, onSeq, fLen, fTuple, fList, fInt, fAbs, fAdd, fI, fI0, fSub, fLt, fLe, fGt, fGe, fIs, fNeg, aSl, aRev, aNoPart, aPart, aLc, aYes, aFz, aFzT, frzA, frzV, aSeq, aRng1, aRng2, aZip, aEnumT, aEnumL, agName, agNil, agCons, agTup, wipeA, aCall, aCallK, flatD]); (try simp only [List.map_cons, List.map_nil, List.length_cons, List.length_nil, List.replicate, List.getElem?_cons_zero, List.getElem?_cons_succ, List.set_cons_zero, List.set_cons_succ, List.cons_append, List.nil_append, Option.map_some, Option.map_none, Nat.sub_self, Nat.reduceSub, Nat.reduceAdd, Nat.reduceLeDiff, Nat.reduceMul, Nat.zero_add, true_and, and_true, forall_const, Bool.false_eq_true, false_implies, implies_true, reduceCtorEq, forall_eq', Bool.true_eq_false, if_true, if_false, reduceIte, ite_true, ite_false, Bool.not_true, Bool.not_false, true_implies, List.length_map]))
    have hx : rows[i]? = some rows[i] := List.getElem?_eq_getElem hi
    have e2 : cutD (rows.map rowD) (some ((i : Int) + 1)) none = (rows.drop (i + 1)).map rowD := by
      rw [show ((i : Int) + 1) = ((i + 1 : Nat) : Int) from rfl, cutD_hi, List.map_drop]
    have hm : rows[i] ∈ rows := List.getElem_mem hi
    have hI : ∀ Q : AK, fIx (.v (rowsD rows)) (.v (.int (i : Nat))) Q ↔ Q (.v (rowD rows[i])) := fun Q => fIx_tup hx
    have hL : ∀ r ∈ rows.take i ++ rows.drop (i + 1), r.length = n := fun r z => (hr r ((List.mem_append.mp z).elim List.mem_of_mem_take List.mem_of_mem_drop)).len
    have hl2 : (rows.take i ++ rows.drop (i + 1)).length ≤ 20 := by rw [List.length_append, List.length_take, List.length_drop]; omega
    rw [cutD_lo, e2, ← List.map_take, hI, ← List.map_append]
    refine ⟨by rw [List.length_map, List.length_map, List.length_take, List.length_drop]; omega, ?_⟩
    rw [in_lot hL (hr _ hm).len n1 (hr _ hm).int, rep_b, hI, up_iff (sp_lmade _ rows[i] (fun r z => by rw [hL r z, (hr _ hm).len]) (by omega) (by rw [(hr _ hm).len]; omega)), rep_b, fNe_str, beq_self_eq_true]
    exact ⟨fun z => (by cases z), fun _ => ih _ _⟩
end K8

namespace K8
open PySem L2 RW RZ PySem.RW U AL
theorem law_r6 {a b : Int} {n : Nat} {rows ts : List Row} (w : Wd a b) (n0 : 1 ≤ n) (n1 : n ≤ 4) (hr : ∀ r ∈ rows, Rw n 3 r) (hk : rows.length ≤ 10) (ht : ∀ t ∈ ts, Rw n 9 t) {D : AEnds} (hn : ∀ o2 o3 o4 o5 o6 o7 o8 o9 o10 o11 o12 o13, D.nx [none, some .urn, o2, o3, o4, o5, o6, o7, o8, o9, o10, o11, o12, o13]) (o2 o5 o7 o9 o10 o11 o12 o13 : Option AV) :
    S_law_3_r6 D [none, some .urn, o2, some (.dat (wdD a b)), some (.dat (.int (n : Nat))), o5, some (.dat (rowsD rows)), o7, some (.dat (.list (ts.map rowD))), o9, o10, o11, o12, o13] := by
  simp only [S_law_3_r6]
  (simp only [aFun, startA, toAV, sNext, sSeq, sRet, sIf, sSet, sAsg, sOwn, sLst, sDrop, sFor, sFrz, sApp, sSetIx, sRaise0, sBrk, sCont, sTry, tryX, noEx, sPar2, sPar3, aVal, aVar, aBin, aTst, aTstB, onTru, onV, truthD, aUn, aNil, aCons, aStar, itemsA, datas, aTup, aLst, aOf, aAndT, aOrT, aNotT, aAndV, aOrV, aNotV, aIf, aChain, aCB, onSeq, fLen, fTuple, fList, fInt, fAbs, fAdd, fI, fI0, fSub, fLt, fLe, fGt, fGe, fIs, fNeg, aSl, aRev, aNoPart, aPart, aLc, aYes, aFz, aFzT, frzA, frzV, aSeq, aRng1, aRng2, aZip, aEnumT, aEnumL, agName, agNil, agCons, agTup, wipeA, aCall, aCallK, flatD]; (try simp only [List.map_cons, List.map_nil, List.length_cons, List.length_nil, List.replicate, List.getElem?_cons_zero, List.getElem?_cons_succ, List.set_cons_zero, List.set_cons_succ, List.cons_append, List.nil_append, Option.map_some, Option.map_none, Nat.sub_self, Nat.reduceSub, Nat.reduceAdd, Nat.reduceLeDiff, Nat.reduceMul, Nat.zero_add, true_and, and_true, forall_const, Bool.false_eq_true, false_implies, implies_true, reduceCtorEq, forall_eq', Bool.true_eq_false, if_true, if_false, reduceIte, ite_true, ite_false, Bool.not_true, Bool.not_false, true_implies, List.length_map]); (try simp only [aFun, startA, toAV, sNext, sSeq, sRet, sIf, sSet, sAsg, sOwn, sLst, sDrop, sFor, sFrz, sApp, sSetIx, sRaise0, sBrk, sCont, sTry, tryX, noEx, sPar2, sPar3, aVal, aVar, aBin, aTst, aTstB, onTru, onV, truthD, aUn, aNil, aCons, aStar, itemsA, datas, aTup, aLst, aOf, aAndT, aOrT, aNotT, aAndV, aOrV, aNotV, aIf, aChain, aCB, onSeq, fLen, fTuple, fList, fInt, fAbs, fAdd, fI, fI0, fSub, fLt, fLe, fGt, fGe, fIs, fNeg, aSl, aRev, aNoPart, aPart, aLc, aYes, aFz, aFzT, frzA, frzV, aSeq, aRng1, aRng2, aZip, aEnumT, aEnumL, agName, agNil, agCons, agTup, wipeA, aCall, aCallK, flatD]); (try simp only [List.map_cons, List.map_nil, List.length_cons, List.length_nil, List.replicate, List.getElem?_cons_zero, List.getElem?_cons_succ, List.set_cons_zero, List.set_cons_succ, List.cons_append, List.nil_append, Option.map_some, Option.map_none, Nat.sub_self, Nat.reduceSub, Nat.reduceAdd, Nat.reduceLeDiff, Nat.reduceMul, Nat.zero_add, true_and, and_true, forall_const, Bool.false_eq_true, false_implies, implies_true, reduceCtorEq, forall_eq', Bool.true_eq_false, if_true, if_false, reduceIte, ite_true, ite_false, Bool.not_true, Bool.not_false, true_implies, List.length_map]))
  refine right_go w n0 n1 hr hk (fun o10 => ?_) ts ht _
  simp only [aFun, startA, toAV, sNext, sSeq, sRet, sIf, sSet, sAsg, sOwn, sLst, sDrop, sFor, sFrz, sApp, sSetIx, sRaise0, sBrk, sCont, sTry, tryX, noEx, sPar2, sPar3, aVal, aVar, aBin, aTst, aTstB, onTru, onV, truthD, aUn, aNil, aCons, aStar, itemsA, datas, aTup, aLst, aOf, aAndT, aOrT, aNotT, aAndV, aOrV, aNotV, aIf, aChain, aCB, onSeq, fLen, fTuple, fList, fInt, fAbs, fAdd, fI, fI0, fSub, fLt, fLe, fGt, fGe, fIs, fNeg, aSl, aRev, aNoPart, aPart, aLc, aYes, aFz, aFzT, frzA, frzV, aSeq, aRng1, aRng2, aZip, aEnumT, aEnumL, agName, agNil, agCons, agTup, wipeA, aCall, aCallK, flatD]
  simp only [List.map_cons, List.map_nil, List.length_cons, List.length_nil, List.replicate, List.getElem?_cons_zero, List.getElem?_cons_succ, List.set_cons_zero, List.set_cons_succ, List.cons_append, List.nil_append, Option.map_some, Option.map_none, Nat.sub_self, Nat.reduceSub, Nat.reduceAdd, Nat.reduceLeDiff, Nat.reduceMul, Nat.zero_add, true_and, and_true, forall_const, Bool.false_eq_true, false_implies, implies_true, reduceCtorEq, forall_eq', Bool.true_eq_false, if_true, if_false, reduceIte, ite_true, ite_false, Bool.not_true, Bool.not_false, true_implies, List.length_map]
  simp only [fMin]
  obtain ⟨j, ej, hj⟩ : ∃ j : Nat, (if (6 : Int) < (rows.length : Nat) then (6 : Int) else (rows.length : Nat)) = (j : Int) ∧ j ≤ rows.length := by
    by_cases h : (6 : Int) < (rows.length : Nat)
    · rw [if_pos h]; exact ⟨6, rfl, by omega⟩
    · rw [if_neg h]; exact ⟨rows.length, rfl, Nat.le_refl _⟩
  rw [ej]
  have hg : RgB (j : Int) := ⟨by omega, by omega⟩
  refine ⟨hg, ?_⟩
  refine at_go (a := a) (b := b) n1 hr hk (fun o11 o12 => ?_) _ (fun q hq => ?_) _ _
  rotate_left
  · simp only [rangeD, Int.toNat_natCast] at hq
    obtain ⟨i, hi, rfl⟩ := List.mem_map.mp hq
    exact ⟨i, by rw [Int.zero_add], by have := List.mem_range.mp hi; omega⟩
  · simp only [aFun, startA, toAV, sNext, sSeq, sRet, sIf, sSet, sAsg, sOwn, sLst, sDrop, sFor, sFrz, sApp, sSetIx, sRaise0, sBrk, sCont, sTry, tryX, noEx, sPar2, sPar3, aVal, aVar, aBin, aTst, aTstB, onTru, onV, truthD, aUn, aNil, aCons, aStar, itemsA, datas, aTup, aLst, aOf, aAndT, aOrT, aNotT, aAndV, aOrV, aNotV, aIf, aChain, aCB, onSeq, fLen, fTuple, fList, fInt, fAbs, fAdd, fI, fI0, fSub, fLt, fLe, fGt, fGe, fIs, fNeg, aSl, aRev, aNoPart, aPart, aLc, aYes, aFz, aFzT, frzA, frzV, aSeq, aRng1, aRng2, aZip, aEnumT, aEnumL, agName, agNil, agCons, agTup, wipeA, aCall, aCallK, flatD]
    simp only [List.map_cons, List.map_nil, List.length_cons, List.length_nil, List.replicate, List.getElem?_cons_zero, List.getElem?_cons_succ, List.set_cons_zero, List.set_cons_succ, List.cons_append, List.nil_append, Option.map_some, Option.map_none, Nat.sub_self, Nat.reduceSub, Nat.reduceAdd, Nat.reduceLeDiff, Nat.reduceMul, Nat.zero_add, true_and, and_true, forall_const, Bool.false_eq_true, false_implies, implies_true, reduceCtorEq, forall_eq', Bool.true_eq_false, if_true, if_false, reduceIte, ite_true, ite_false, Bool.not_true, Bool.not_false, true_implies, List.length_map]
    refine up_take (by omega) (by omega) fun t t0 t1 => ?_
    (try simp only [aFun, startA, toAV, sNext, sSeq, sRet, sIf, sSet, sAsg, sOwn, sLst, sDrop, sFor, sFrz, sApp, sSetIx, sRaise0, sBrk, sCont, sTry, tryX, noEx, sPar2, sPar3, aVal, aVar, aBin, aTst, aTstB, onTru, onV, truthD, aUn, aNil, aCons, aStar, itemsA, datas, aTup, aLst, aOf, aAndT, aOrT, aNotT, aAndV, aOrV, aNotV, aIf, aChain, aCB, onSeq, fLen, fTuple, fList, fInt, fAbs, fAdd, fI, fI0, fSub, fLt, fLe, fGt, fGe, fIs, fNeg, aSl, aRev, aNoPart, aPart, aLc, aYes, aFz, aFzT, frzA, frzV, aSeq, aRng1, aRng2, aZip, aEnumT, aEnumL, agName, agNil, agCons, agTup, wipeA, aCall, aCallK, flatD])
    (try simp only [List.map_cons, List.map_nil, List.length_cons, List.length_nil, List.replicate, List.getElem?_cons_zero, List.getElem?_cons_succ, List.set_cons_zero, List.set_cons_succ, List.cons_append, List.nil_append, Option.map_some, Option.map_none, Nat.sub_self, Nat.reduceSub, Nat.reduceAdd, Nat.reduceLeDiff, Nat.reduceMul, Nat.zero_add, true_and, and_true, forall_const, Bool.false_eq_true, false_implies, implies_true, reduceCtorEq, forall_eq', Bool.true_eq_false, if_true, if_false, reduceIte, ite_true, ite_false, Bool.not_true, Bool.not_false, true_implies, List.length_map])
    obtain ⟨v, ev, v1, v4, vn⟩ : ∃ v : Nat, (1 + ((n : Nat) + t).fmod 4 : Int) = (v : Int) ∧ 1 ≤ v ∧ v ≤ 4 ∧ n ≠ v := by
      rw [Int.fmod_eq_emod_of_nonneg _ (by omega)]
      exact ⟨(1 + ((n : Nat) + t) % 4 : Int).toNat, by omega, by omega, by omega, by omega⟩
    refine ⟨by omega, ?_⟩
    rw [ev]
    refine up_of (sp_row_of w v1 v4 fun other ho => ?_)
    refine up_of (sp_two w ?_)
    refine ⟨fun z => (by cases z), fun _ => ?_⟩
    refine up_of (sp_unfit (fun r z => (hr r z).len) (by rw [ho.len]; exact v4) (by rw [ho.len]; exact vn) ?_)
    exact ⟨fun z => (by cases z), fun _ => hn _ _ _ _ _ _ _ _ _ _ _ _⟩
theorem layR : ∀ L : List Row, PyData.canLayAll0 (L.map rowD) = true ∧ PyData.depthAll (L.map rowD) ≤ 1
  | [] => ⟨by simp [PyData.canLayAll0], by simp [PyData.depthAll]⟩
  | x :: r => by
    obtain ⟨h1, h2⟩ := layR r
    obtain ⟨h3, h4⟩ := layN_ x
    exact ⟨by simp [PyData.canLayAll0, PyData.canLay0, h1, h3], by simp only [List.map_cons, PyData.depthAll, PyData.depth, h4]; omega⟩
theorem shapedR (L : List Row) : SeqAt.shaped (rowsD L) = true := by
  obtain ⟨h1, h2⟩ := layR L
  simp [SeqAt.shaped, PyData.canLay0, PyData.depth, h1]
  omega
theorem eqOk_rows (L : List Row) : EqOk (rowsD L) := ⟨by simp only [noDict]; exact noDicts_map fun r => (eqOk_row r).1, shapedR L⟩
theorem fNe_nil {L : List Row} {Q : AK} : fEq true (.v (rowsD L)) (.v (.tuple [])) Q ↔ Q (.v (.bool (!L.isEmpty))) := by
  unfold fEq
  have h : EqOk2 (rowsD L) (.tuple []) := .inl ⟨eqOk_rows L, eqOk_rows []⟩
  have e : (rowsD L).eqv (.tuple []) = L.isEmpty := by
    cases L with
    | nil => rfl
    | cons x xs => rfl
  simp only [h, true_and, e, if_true]
theorem law_r4 {a b : Int} {n : Nat} {rows : List Row} (w : Wd a b) (n0 : 1 ≤ n) (n1 : n ≤ 4) (hr : ∀ r ∈ rows, Rw n 3 r) (hk : rows.length ≤ 10) {D : AEnds} (hn : ∀ o2 o3 o4 o5 o6 o7 o8 o9 o10 o11 o12 o13, D.nx [none, some .urn, o2, o3, o4, o5, o6, o7, o8, o9, o10, o11, o12, o13]) (o2 o5 o7 o8 o9 o10 o11 o12 o13 : Option AV) :
    S_law_3_r4 D [none, some .urn, o2, some (.dat (wdD a b)), some (.dat (.int (n : Nat))), o5, some (.dat (rowsD rows)), o7, o8, o9, o10, o11, o12, o13] := by
  simp only [S_law_3_r4]
  (simp only [aFun, startA, toAV, sNext, sSeq, sRet, sIf, sSet, sAsg, sOwn, sLst, sDrop, sFor, sFrz, sApp, sSetIx, sRaise0, sBrk, sCont, sTry, tryX, noEx, sPar2, sPar3, aVal, aVar, aBin, aTst, aTstB, onTru, onV, truthD, aUn, aNil, aCons, aStar, itemsA, datas, aTup, aLst, aOf, aAndT, aOrT, aNotT, aAndV, aOrV, aNotV, aIf, aChain, aCB, onSeq, fLen, fTuple, fList, fInt, fAbs, fAdd, fI, fI0, fSub, fLt, fLe, fGt, fGe, fIs, fNeg, aSl, aRev, aNoPart, aPart, aLc, aYes, aFz, aFzT, frzA, frzV, aSeq, aRng1, aRng2, aZip, aEnumT, aEnumL, agName, agNil, agCons, agTup, wipeA, aCall, aCallK, flatD]; (try simp only [List.map_cons, List.map_nil, List.length_cons, List.length_nil, List.replicate, List.getElem?_cons_zero, List.getElem?_cons_succ, List.set_cons_zero, List.set_cons_succ, List.cons_append, List.nil_append, Option.map_some, Option.map_none, Nat.sub_self, Nat.reduceSub, Nat.reduceAdd, Nat.reduceLeDiff, Nat.reduceMul, Nat.zero_add, true_and, and_true, forall_const, Bool.false_eq_true, false_implies, implies_true, reduceCtorEq, forall_eq', Bool.true_eq_false, if_true, if_false, reduceIte, ite_true, ite_false, Bool.not_true, Bool.not_false, true_implies, List.length_map]); (try simp only [aFun, startA, toAV, sNext, sSeq, sRet, sIf, sSet, sAsg, sOwn, sLst, sDrop, sFor, sFrz, sApp, sSetIx, sRaise0, sBrk, sCont, sTry, tryX, noEx, sPar2, sPar3, aVal, aVar, aBin, aTst, aTstB, onTru, onV, truthD, aUn, aNil, aCons, aStar, itemsA, datas, aTup, aLst, aOf, aAndT, aOrT, aNotT, aAndV, aOrV, aNotV, aIf, aChain, aCB, onSeq, fLen, fTuple, fList, fInt, fAbs, fAdd, fI, fI0, fSub, fLt, fLe, fGt, fGe, fIs, fNeg, aSl, aRev, aNoPart, aPart, aLc, aYes, aFz, aFzT, frzA, frzV, aSeq, aRng1, aRng2, aZip, aEnumT, aEnumL, agName, agNil, agCons, agTup, wipeA, aCall, aCallK, flatD]); (try simp only [List.map_cons, List.map_nil, List.length_cons, List.length_nil, List.replicate, List.getElem?_cons_zero, List.getElem?_cons_succ, List.set_cons_zero, List.set_cons_succ, List.cons_append, List.nil_append, Option.map_some, Option.map_none, Nat.sub_self, Nat.reduceSub, Nat.reduceAdd, Nat.reduceLeDiff, Nat.reduceMul, Nat.zero_add, true_and, and_true, forall_const, Bool.false_eq_true, false_implies, implies_true, reduceCtorEq, forall_eq', Bool.true_eq_false, if_true, if_false, reduceIte, ite_true, ite_false, Bool.not_true, Bool.not_false, true_implies, List.length_map]))
  refine up_of (sp_row_of w n0 n1 fun t1 h1 => ?_)
  (try simp only [aFun, startA, toAV, sNext, sSeq, sRet, sIf, sSet, sAsg, sOwn, sLst, sDrop, sFor, sFrz, sApp, sSetIx, sRaise0, sBrk, sCont, sTry, tryX, noEx, sPar2, sPar3, aVal, aVar, aBin, aTst, aTstB, onTru, onV, truthD, aUn, aNil, aCons, aStar, itemsA, datas, aTup, aLst, aOf, aAndT, aOrT, aNotT, aAndV, aOrV, aNotV, aIf, aChain, aCB, onSeq, fLen, fTuple, fList, fInt, fAbs, fAdd, fI, fI0, fSub, fLt, fLe, fGt, fGe, fIs, fNeg, aSl, aRev, aNoPart, aPart, aLc, aYes, aFz, aFzT, frzA, frzV, aSeq, aRng1, aRng2, aZip, aEnumT, aEnumL, agName, agNil, agCons, agTup, wipeA, aCall, aCallK, flatD])
  refine up_of (sp_row_of w n0 n1 fun t2 h2 => ?_)
  (try simp only [aFun, startA, toAV, sNext, sSeq, sRet, sIf, sSet, sAsg, sOwn, sLst, sDrop, sFor, sFrz, sApp, sSetIx, sRaise0, sBrk, sCont, sTry, tryX, noEx, sPar2, sPar3, aVal, aVar, aBin, aTst, aTstB, onTru, onV, truthD, aUn, aNil, aCons, aStar, itemsA, datas, aTup, aLst, aOf, aAndT, aOrT, aNotT, aAndV, aOrV, aNotV, aIf, aChain, aCB, onSeq, fLen, fTuple, fList, fInt, fAbs, fAdd, fI, fI0, fSub, fLt, fLe, fGt, fGe, fIs, fNeg, aSl, aRev, aNoPart, aPart, aLc, aYes, aFz, aFzT, frzA, frzV, aSeq, aRng1, aRng2, aZip, aEnumT, aEnumL, agName, agNil, agCons, agTup, wipeA, aCall, aCallK, flatD])
  rw [fNe_nil]
  have m2 : ∀ {r : Row}, Rw n 2 r → Rw n 9 r := fun h => h.mono (by omega)
  refine ⟨fun hz => ?_, fun hz => ?_⟩
  · have hne : rows ≠ [] := fun z => by rw [z] at hz; simp at hz
    refine up_of (sp_lmade_u w n1 (by omega) hr hne fun made hm hM => ?_)
    refine up_of (sp_near w n0 n1 hm (by omega) fun y1 hy1 => ?_)
    (try simp only [aFun, startA, toAV, sNext, sSeq, sRet, sIf, sSet, sAsg, sOwn, sLst, sDrop, sFor, sFrz, sApp, sSetIx, sRaise0, sBrk, sCont, sTry, tryX, noEx, sPar2, sPar3, aVal, aVar, aBin, aTst, aTstB, onTru, onV, truthD, aUn, aNil, aCons, aStar, itemsA, datas, aTup, aLst, aOf, aAndT, aOrT, aNotT, aAndV, aOrV, aNotV, aIf, aChain, aCB, onSeq, fLen, fTuple, fList, fInt, fAbs, fAdd, fI, fI0, fSub, fLt, fLe, fGt, fGe, fIs, fNeg, aSl, aRev, aNoPart, aPart, aLc, aYes, aFz, aFzT, frzA, frzV, aSeq, aRng1, aRng2, aZip, aEnumT, aEnumL, agName, agNil, agCons, agTup, wipeA, aCall, aCallK, flatD])
    refine up_of (sp_near w n0 n1 hm (by omega) fun y2 hy2 => ?_)
    (try simp only [aFun, startA, toAV, sNext, sSeq, sRet, sIf, sSet, sAsg, sOwn, sLst, sDrop, sFor, sFrz, sApp, sSetIx, sRaise0, sBrk, sCont, sTry, tryX, noEx, sPar2, sPar3, aVal, aVar, aBin, aTst, aTstB, onTru, onV, truthD, aUn, aNil, aCons, aStar, itemsA, datas, aTup, aLst, aOf, aAndT, aOrT, aNotT, aAndV, aOrV, aNotV, aIf, aChain, aCB, onSeq, fLen, fTuple, fList, fInt, fAbs, fAdd, fI, fI0, fSub, fLt, fLe, fGt, fGe, fIs, fNeg, aSl, aRev, aNoPart, aPart, aLc, aYes, aFz, aFzT, frzA, frzV, aSeq, aRng1, aRng2, aZip, aEnumT, aEnumL, agName, agNil, agCons, agTup, wipeA, aCall, aCallK, flatD])
    rw [up_iff (sp_lmade rows made (fun r z => by rw [(hr r z).len, hm.len]) (by omega) (by rw [hm.len]; omega)), mb_iff.mpr hM]
    refine ⟨fun z => (by cases z), fun _ => ?_⟩
    exact law_r6 (ts := [t1, t2, made, y1, y2]) w n0 n1 hr hk (fun t ht => by
      simp only [List.mem_cons, List.mem_nil_iff, or_false] at ht
      rcases ht with rfl | rfl | rfl | rfl | rfl
      · exact m2 h1
      · exact m2 h2
      · exact hm.mono (by omega)
      · exact hy1
      · exact hy2) hn _ _ _ _ _ _ _ _
  · exact law_r6 (ts := [t1, t2]) w n0 n1 hr hk (fun t ht => by
      simp only [List.mem_cons, List.mem_nil_iff, or_false] at ht
      rcases ht with rfl | rfl
      · exact m2 h1
      · exact m2 h2) hn _ _ _ _ _ _ _ _
end K8

namespace K8
open PySem L2 RW RZ PySem.RW U AL
theorem rows_of {n : Nat} {xs out : List PyData} (h : Paired (fun _ q => ∃ r, q = rowD r ∧ Rw n 2 r) xs out) : ∃ L : List Row, out = L.map rowD ∧ L.length = xs.length ∧ ∀ r ∈ L, Rw n 2 r := by
  obtain ⟨L, rfl, hR⟩ := paired_map (d := rowD) (S := fun _ r => Rw n 2 r) (fun x q ⟨r, e, k⟩ => ⟨r, e, k⟩) h
  refine ⟨L, rfl, (Paired.length hR).symm, fun i hi => ?_⟩
  obtain ⟨k, hk⟩ := List.mem_iff_getElem?.mp hi
  have hl := (List.getElem?_eq_some_iff.mp hk).1
  obtain ⟨y, hy, z⟩ := paired_at hR (i := k) (List.getElem?_eq_getElem (by rw [Paired.length hR]; exact hl))
  rw [hk] at hy
  cases hy
  exact z
theorem turn_go {D : AEnds} (hn : ∀ o2 o3 o4 o5 o6 o7 o8 o9 o10 o11 o12 o13, D.nx [none, some .urn, o2, o3, o4, o5, o6, o7, o8, o9, o10, o11, o12, o13]) : ∀ (l : List PyData) (o2 o3 o4 o5 o6 o7 o8 o9 o10 o11 o12 o13 : Option AV),
    forGo (agName 2) S_law_3 D l [none, some .urn, o2, o3, o4, o5, o6, o7, o8, o9, o10, o11, o12, o13]
  | [], _, _, _, _, _, _, _, _, _, _, _, _ => hn _ _ _ _ _ _ _ _ _ _ _ _
  | x :: l, o2, o3, o4, o5, o6, o7, o8, o9, o10, o11, o12, o13 => by
    have ih := turn_go hn l
    unfold forGo
    generalize forGo (agName 2) S_law_3 D l = F at ih ⊢
    have hR := fun {a b : Int} {n : Nat} {rows : List Row} (w : Wd a b) (n0 : 1 ≤ n) (n1 : n ≤ 4) (hr : ∀ r ∈ rows, Rw n 3 r) (hk : rows.length ≤ 10) => law_r4 w n0 n1 hr hk (D := { D with nx := F, ct := F, bk := D.nx }) ih
    rw [S_law_3_eq]
    generalize S_law_3_r4 = R at hR ⊢
    (simp only [aFun, startA, toAV, sNext, sSeq, sRet, sIf, sSet, sAsg, sOwn, sLst, sDrop, sFor, sFrz, sApp, sSetIx, sRaise0, sBrk, sCont, sTry, tryX, noEx, sPar2, sPar3, aVal, aVar, aBin, aTst, aTstB, onTru, onV, truthD, aUn, aNil, aCons, aStar, itemsA, datas, aTup, aLst, aOf, aAndT, aOrT, aNotT, aAndV, aOrV, aNotV, aIf, aChain, aCB, onSeq, fLen, fTuple, fList, fInt, fAbs, fAdd, fI, fI0, fSub, fLt, fLe, fGt, fGe, fIs, fNeg, aSl, aRev, aNoPart, aPart, aLc, aYes, aFz, aFzT, frzA, frzV, aSeq, aRng1, aRng2, aZip, aEnumT, aEnumL, agName, agNil, agCons, agTup, wipeA, aCall, aCallK, flatD]; (try simp only [List.map_cons, List.map_nil, List.length_cons, List.length_nil, List.replicate, List.getElem?_cons_zero, List.getElem?_cons_succ, List.set_cons_zero, List.set_cons_succ, List.cons_append, List.nil_append, Option.map_some, Option.map_none, Nat.sub_self, Nat.reduceSub, Nat.reduceAdd, Nat.reduceLeDiff, Nat.reduceMul, Nat.zero_add, true_and, and_true, forall_const, Bool.false_eq_true, false_implies, implies_true, reduceCtorEq, forall_eq', Bool.true_eq_false, if_true, if_false, reduceIte, ite_true, ite_false, Bool.not_true, Bool.not_false, true_implies, List.length_map]); (try simp only [aFun, startA, toAV, sNext, sSeq, sRet, sIf, sSet, sAsg, sOwn, sLst, sDrop, sFor, sFrz, sApp, sSetIx, sRaise0, sBrk, sCont, sTry, tryX, noEx, sPar2, sPar3, aVal, aVar, aBin, aTst, aTstB, onTru, onV, truthD, aUn, aNil, aCons, aStar, itemsA, datas, aTup, aLst, aOf, aAndT, aOrT, aNotT, aAndV, aOrV, aNotV, aIf, aChain, aCB, onSeq, fLen, fTuple, fList, fInt, fAbs, fAdd, fI, fI0, fSub, fLt, fLe, fGt, fGe, fIs, fNeg, aSl, aRev, aNoPart, aPart, aLc, aYes, aFz, aFzT, frzA, frzV, aSeq, aRng1, aRng2, aZip, aEnumT, aEnumL, agName, agNil, agCons, agTup, wipeA, aCall, aCallK, flatD]); (try simp only [List.map_cons, List.map_nil, List.length_cons, List.length_nil, List.replicate, List.getElem?_cons_zero, List.getElem?_cons_succ, List.set_cons_zero, List.set_cons_succ, List.cons_append, List.nil_append, Option.map_some, Option.map_none, Nat.sub_self, Nat.reduceSub, Nat.reduceAdd, Nat.reduceLeDiff, Nat.reduceMul, Nat.zero_add, true_and, and_true, forall_const, Bool.false_eq_true, false_implies, implies_true, reduceCtorEq, forall_eq', Bool.true_eq_false, if_true, if_false, reduceIte, ite_true, ite_false, Bool.not_true, Bool.not_false, true_implies, List.length_map]))
    refine up_of (sp_one (by simp) (by simp) fun q hq => ?_)
    obtain ⟨a, rfl, a0, a1⟩ : ∃ a : Int, q = .int a ∧ 0 ≤ a ∧ a ≤ 1000 := by
      simp only [List.mem_cons, List.mem_nil_iff, or_false] at hq
      rcases hq with rfl | rfl | rfl | rfl | rfl <;> exact ⟨_, rfl, by omega, by omega⟩
    refine ⟨by decide +kernel, by decide +kernel, by decide +kernel, by decide +kernel, ?_⟩
    refine up_of (sp_one (by simp) (by simp) fun q hq2 => ?_)
    obtain ⟨b, rfl, b0⟩ : ∃ b : Int, q = .int b ∧ b.natAbs ≤ BN := by
      have hB := BN_pos
      simp only [List.mem_cons, List.mem_nil_iff, or_false] at hq2
      rcases hq2 with rfl | rfl | rfl | rfl | rfl | rfl
      · exact ⟨_, rfl, by omega⟩
      · exact ⟨_, rfl, by omega⟩
      · exact ⟨_, rfl, by omega⟩
      · exact ⟨_, rfl, by unfold BN; decide +kernel⟩
      · exact ⟨_, rfl, by unfold BN; decide +kernel⟩
      · exact ⟨_, rfl, by unfold BN; decide +kernel⟩
    have w : Wd a b := ⟨a0, a1, b0⟩
    refine up_take (by omega) (by omega) fun t t0 t1 => ?_
    (try simp only [aFun, startA, toAV, sNext, sSeq, sRet, sIf, sSet, sAsg, sOwn, sLst, sDrop, sFor, sFrz, sApp, sSetIx, sRaise0, sBrk, sCont, sTry, tryX, noEx, sPar2, sPar3, aVal, aVar, aBin, aTst, aTstB, onTru, onV, truthD, aUn, aNil, aCons, aStar, itemsA, datas, aTup, aLst, aOf, aAndT, aOrT, aNotT, aAndV, aOrV, aNotV, aIf, aChain, aCB, onSeq, fLen, fTuple, fList, fInt, fAbs, fAdd, fI, fI0, fSub, fLt, fLe, fGt, fGe, fIs, fNeg, aSl, aRev, aNoPart, aPart, aLc, aYes, aFz, aFzT, frzA, frzV, aSeq, aRng1, aRng2, aZip, aEnumT, aEnumL, agName, agNil, agCons, agTup, wipeA, aCall, aCallK, flatD])
    refine up_of (sp_one (by simp) (by simp) fun q hq3 => ?_)
    obtain ⟨m, rfl, m1⟩ : ∃ m : Nat, q = .int m ∧ m ≤ 9 := by
      simp only [List.mem_cons, List.mem_nil_iff, or_false] at hq3
      rcases hq3 with rfl | rfl | rfl | rfl | rfl | rfl | rfl
      · exact ⟨0, rfl, by omega⟩
      · exact ⟨1, rfl, by omega⟩
      · exact ⟨2, rfl, by omega⟩
      · exact ⟨3, rfl, by omega⟩
      · exact ⟨4, rfl, by omega⟩
      · exact ⟨7, rfl, by omega⟩
      · exact ⟨9, rfl, by omega⟩
    obtain ⟨n, en, n0, n1⟩ : ∃ n : Nat, 1 + t = (n : Int) ∧ 1 ≤ n ∧ n ≤ 4 := ⟨(1 + t).toNat, by omega, by omega, by omega⟩
    rw [en]
    have hg : RgB (m : Int) := ⟨by omega, by omega⟩
    (try simp only [aFun, startA, toAV, sNext, sSeq, sRet, sIf, sSet, sAsg, sOwn, sLst, sDrop, sFor, sFrz, sApp, sSetIx, sRaise0, sBrk, sCont, sTry, tryX, noEx, sPar2, sPar3, aVal, aVar, aBin, aTst, aTstB, onTru, onV, truthD, aUn, aNil, aCons, aStar, itemsA, datas, aTup, aLst, aOf, aAndT, aOrT, aNotT, aAndV, aOrV, aNotV, aIf, aChain, aCB, onSeq, fLen, fTuple, fList, fInt, fAbs, fAdd, fI, fI0, fSub, fLt, fLe, fGt, fGe, fIs, fNeg, aSl, aRev, aNoPart, aPart, aLc, aYes, aFz, aFzT, frzA, frzV, aSeq, aRng1, aRng2, aZip, aEnumT, aEnumL, agName, agNil, agCons, agTup, wipeA, aCall, aCallK, flatD])
    (try simp only [List.map_cons, List.map_nil, List.length_cons, List.length_nil, List.replicate, List.getElem?_cons_zero, List.getElem?_cons_succ, List.set_cons_zero, List.set_cons_succ, List.cons_append, List.nil_append, Option.map_some, Option.map_none, Nat.sub_self, Nat.reduceSub, Nat.reduceAdd, Nat.reduceLeDiff, Nat.reduceMul, Nat.zero_add, true_and, and_true, forall_const, Bool.false_eq_true, false_implies, implies_true, reduceCtorEq, forall_eq', Bool.true_eq_false, if_true, if_false, reduceIte, ite_true, ite_false, Bool.not_true, Bool.not_false, true_implies, List.length_map])
    simp only [hg, true_and]
    refine ⟨by simp only [rangeD, List.length_map, List.length_range, Int.toNat_natCast]; omega, lcGo_all (fun _ q => ∃ r, q = rowD r ∧ Rw n 2 r) _ _ (fun x hx R' hR' => ?_) fun out hout => ?_⟩
    · (try simp only [aFun, startA, toAV, sNext, sSeq, sRet, sIf, sSet, sAsg, sOwn, sLst, sDrop, sFor, sFrz, sApp, sSetIx, sRaise0, sBrk, sCont, sTry, tryX, noEx, sPar2, sPar3, aVal, aVar, aBin, aTst, aTstB, onTru, onV, truthD, aUn, aNil, aCons, aStar, itemsA, datas, aTup, aLst, aOf, aAndT, aOrT, aNotT, aAndV, aOrV, aNotV, aIf, aChain, aCB, onSeq, fLen, fTuple, fList, fInt, fAbs, fAdd, fI, fI0, fSub, fLt, fLe, fGt, fGe, fIs, fNeg, aSl, aRev, aNoPart, aPart, aLc, aYes, aFz, aFzT, frzA, frzV, aSeq, aRng1, aRng2, aZip, aEnumT, aEnumL, agName, agNil, agCons, agTup, wipeA, aCall, aCallK, flatD])
      (try simp only [List.map_cons, List.map_nil, List.length_cons, List.length_nil, List.replicate, List.getElem?_cons_zero, List.getElem?_cons_succ, List.set_cons_zero, List.set_cons_succ, List.cons_append, List.nil_append, Option.map_some, Option.map_none, Nat.sub_self, Nat.reduceSub, Nat.reduceAdd, Nat.reduceLeDiff, Nat.reduceMul, Nat.zero_add, true_and, and_true, forall_const, Bool.false_eq_true, false_implies, implies_true, reduceCtorEq, forall_eq', Bool.true_eq_false, if_true, if_false, reduceIte, ite_true, ite_false, Bool.not_true, Bool.not_false, true_implies, List.length_map])
      refine up_of (sp_row_of w n0 n1 fun xs hxs => ?_)
      exact hR' _ ⟨xs, rfl, hxs⟩
    rw [List.nil_append]
    obtain ⟨L, rfl, hLl, hL⟩ := rows_of hout
    simp only [rangeD, List.length_map, List.length_range, Int.toNat_natCast] at hLl
    have hL3 : ∀ r ∈ L, Rw n 3 r := fun r z => (hL r z).mono (by omega)
    rw [fNe_nil]
    refine ⟨fun hz => ?_, fun _ => hR w n0 n1 hL3 (by omega) _ _ _ _ _ _ _ _ _⟩
    have hne : 0 < L.length := List.length_pos_iff.mpr fun z => by rw [z] at hz; simp at hz
    refine up_take (by omega) (by omega) fun u u0 u1 => ?_
    rw [fEq_int]
    refine ⟨fun _ => ?_, fun _ => hR w n0 n1 hL3 (by omega) _ _ _ _ _ _ _ _ _⟩
    refine up_take (by omega) (by omega) fun i i0 i1 => ?_
    obtain ⟨y, hy, ey⟩ := ix_rows (L := L) i0 (by omega)
    rw [ey]
    refine up_take (by omega) (by omega) fun c c0 c1 => ?_
    rw [up_iff (sp_plus y c (by rw [(hL y hy).len]; omega))]
    refine ⟨by rw [List.length_map]; omega, ?_⟩
    rw [show L.map rowD ++ [rowD (plus y c)] = (L ++ [plus y c]).map rowD by simp]
    have hB := BN_pos
    exact hR w n0 n1 (fun r z => (List.mem_append.mp z).elim (hL3 r) fun z => by
      rw [List.mem_singleton.mp z]
      exact rw_plus (e := 1) (hL y hy) (by omega)) (by rw [List.length_append, List.length_singleton]; omega) _ _ _ _ _ _ _ _ _
theorem law_holds : lawA N_law.length S_law := by
  unfold lawA
  simp only [S_law]
  (simp only [aFun, startA, toAV, sNext, sSeq, sRet, sIf, sSet, sAsg, sOwn, sLst, sDrop, sFor, sFrz, sApp, sSetIx, sRaise0, sBrk, sCont, sTry, tryX, noEx, sPar2, sPar3, aVal, aVar, aBin, aTst, aTstB, onTru, onV, truthD, aUn, aNil, aCons, aStar, itemsA, datas, aTup, aLst, aOf, aAndT, aOrT, aNotT, aAndV, aOrV, aNotV, aIf, aChain, aCB, onSeq, fLen, fTuple, fList, fInt, fAbs, fAdd, fI, fI0, fSub, fLt, fLe, fGt, fGe, fIs, fNeg, aSl, aRev, aNoPart, aPart, aLc, aYes, aFz, aFzT, frzA, frzV, aSeq, aRng1, aRng2, aZip, aEnumT, aEnumL, agName, agNil, agCons, agTup, wipeA, aCall, aCallK, flatD]; (try simp only [List.map_cons, List.map_nil, List.length_cons, List.length_nil, List.replicate, List.getElem?_cons_zero, List.getElem?_cons_succ, List.set_cons_zero, List.set_cons_succ, List.cons_append, List.nil_append, Option.map_some, Option.map_none, Nat.sub_self, Nat.reduceSub, Nat.reduceAdd, Nat.reduceLeDiff, Nat.reduceMul, Nat.zero_add, true_and, and_true, forall_const, Bool.false_eq_true, false_implies, implies_true, reduceCtorEq, forall_eq', Bool.true_eq_false, if_true, if_false, reduceIte, ite_true, ite_false, Bool.not_true, Bool.not_false, true_implies, List.length_map]); (try simp only [aFun, startA, toAV, sNext, sSeq, sRet, sIf, sSet, sAsg, sOwn, sLst, sDrop, sFor, sFrz, sApp, sSetIx, sRaise0, sBrk, sCont, sTry, tryX, noEx, sPar2, sPar3, aVal, aVar, aBin, aTst, aTstB, onTru, onV, truthD, aUn, aNil, aCons, aStar, itemsA, datas, aTup, aLst, aOf, aAndT, aOrT, aNotT, aAndV, aOrV, aNotV, aIf, aChain, aCB, onSeq, fLen, fTuple, fList, fInt, fAbs, fAdd, fI, fI0, fSub, fLt, fLe, fGt, fGe, fIs, fNeg, aSl, aRev, aNoPart, aPart, aLc, aYes, aFz, aFzT, frzA, frzV, aSeq, aRng1, aRng2, aZip, aEnumT, aEnumL, agName, agNil, agCons, agTup, wipeA, aCall, aCallK, flatD]); (try simp only [List.map_cons, List.map_nil, List.length_cons, List.length_nil, List.replicate, List.getElem?_cons_zero, List.getElem?_cons_succ, List.set_cons_zero, List.set_cons_succ, List.cons_append, List.nil_append, Option.map_some, Option.map_none, Nat.sub_self, Nat.reduceSub, Nat.reduceAdd, Nat.reduceLeDiff, Nat.reduceMul, Nat.zero_add, true_and, and_true, forall_const, Bool.false_eq_true, false_implies, implies_true, reduceCtorEq, forall_eq', Bool.true_eq_false, if_true, if_false, reduceIte, ite_true, ite_false, Bool.not_true, Bool.not_false, true_implies, List.length_map]))
  refine ⟨⟨by omega, by omega⟩, turn_go (fun _ _ _ _ _ _ _ _ _ _ _ _ => ?_) _ _ _ _ _ _ _ _ _ _ _ _ _⟩
  (try simp only [aFun, startA, toAV, sNext, sSeq, sRet, sIf, sSet, sAsg, sOwn, sLst, sDrop, sFor, sFrz, sApp, sSetIx, sRaise0, sBrk, sCont, sTry, tryX, noEx, sPar2, sPar3, aVal, aVar, aBin, aTst, aTstB, onTru, onV, truthD, aUn, aNil, aCons, aStar, itemsA, datas, aTup, aLst, aOf, aAndT, aOrT, aNotT, aAndV, aOrV, aNotV, aIf, aChain, aCB, onSeq, fLen, fTuple, fList, fInt, fAbs, fAdd, fI, fI0, fSub, fLt, fLe, fGt, fGe, fIs, fNeg, aSl, aRev, aNoPart, aPart, aLc, aYes, aFz, aFzT, frzA, frzV, aSeq, aRng1, aRng2, aZip, aEnumT, aEnumL, agName, agNil, agCons, agTup, wipeA, aCall, aCallK, flatD])
  (try simp only [List.map_cons, List.map_nil, List.length_cons, List.length_nil, List.replicate, List.getElem?_cons_zero, List.getElem?_cons_succ, List.set_cons_zero, List.set_cons_succ, List.cons_append, List.nil_append, Option.map_some, Option.map_none, Nat.sub_self, Nat.reduceSub, Nat.reduceAdd, Nat.reduceLeDiff, Nat.reduceMul, Nat.zero_add, true_and, and_true, forall_const, Bool.false_eq_true, false_implies, implies_true, reduceCtorEq, forall_eq', Bool.true_eq_false, if_true, if_false, reduceIte, ite_true, ite_false, Bool.not_true, Bool.not_false, true_implies, List.length_map])
  exact up_of (sp_many rfl)
end K8

namespace K8
open PySem L2 RW RZ PySem.RW U AL
theorem all_mk {l : PySem.W.OpenLaw} {w : World} {K : PySem.W.Frag} {h : Heap} {mg : Str → Option Value} {fa : Addr} {f_ask_as_many f_is_in f_greatest_shift f_integer_places f_touched f_is_made_of f_law_urn f_law_take f_law_one f_law_whole f_law_row_of f_law_plus f_law_more f_law_made f_law_near f_law_reaches f_law_is_made f_law_is_right f_law_of_two f_law_of_many f_law_is_unfit f_law : Addr} (X : K.In h) (G : h.Ns mainGlobals mg) (hfa : mg "law" = some (.ref fa))
    {od_ask_as_many od_is_in od_greatest_shift od_integer_places od_touched od_is_made_of od_law_urn od_law_take od_law_one od_law_whole od_law_row_of od_law_plus od_law_more od_law_made od_law_near od_law_reaches od_law_is_made od_law_is_right od_law_of_two od_law_of_many od_law_is_unfit od_law an_ask_as_many an_is_in an_greatest_shift an_integer_places an_touched an_is_made_of an_law_urn an_law_take an_law_one an_law_whole an_law_row_of an_law_plus an_law_more an_law_made an_law_near an_law_reaches an_law_is_made an_law_is_right an_law_of_two an_law_of_many an_law_is_unfit an_law : Option Addr} {sl_ask_as_many sl_is_in sl_greatest_shift sl_integer_places sl_touched sl_is_made_of sl_law_urn sl_law_take sl_law_one sl_law_whole sl_law_row_of sl_law_plus sl_law_more sl_law_made sl_law_near sl_law_reaches sl_law_is_made sl_law_is_right sl_law_of_two sl_law_of_many sl_law_is_unfit sl_law : Array (Option Value)} {oc_ask_as_many oc_is_in oc_greatest_shift oc_integer_places oc_touched oc_is_made_of oc_law_urn oc_law_take oc_law_one oc_law_whole oc_law_row_of oc_law_plus oc_law_more oc_law_made oc_law_near oc_law_reaches oc_law_is_made oc_law_is_right oc_law_of_two oc_law_of_many oc_law_is_unfit oc_law kV_ask_as_many kV_is_in kV_greatest_shift kV_integer_places kV_touched kV_is_made_of kV_law_urn kV_law_take kV_law_one kV_law_whole kV_law_row_of kV_law_plus kV_law_more kV_law_made kV_law_near kV_law_reaches kV_law_is_made kV_law_is_right kV_law_of_two kV_law_of_many kV_law_is_unfit kV_law dc_ask_as_many dc_is_in dc_greatest_shift dc_integer_places dc_touched dc_is_made_of dc_law_urn dc_law_take dc_law_one dc_law_whole dc_law_row_of dc_law_plus dc_law_more dc_law_made dc_law_near dc_law_reaches dc_law_is_made dc_law_is_right dc_law_of_two dc_law_of_many dc_law_is_unfit dc_law pm_ask_as_many pm_is_in pm_greatest_shift pm_integer_places pm_touched pm_is_made_of pm_law_urn pm_law_take pm_law_one pm_law_whole pm_law_row_of pm_law_plus pm_law_more pm_law_made pm_law_near pm_law_reaches pm_law_is_made pm_law_is_right pm_law_of_two pm_law_of_many pm_law_is_unfit pm_law cd_ask_as_many cd_is_in cd_greatest_shift cd_integer_places cd_touched cd_is_made_of cd_law_urn cd_law_take cd_law_one cd_law_whole cd_law_row_of cd_law_plus cd_law_more cd_law_made cd_law_near cd_law_reaches cd_law_is_made cd_law_is_right cd_law_of_two cd_law_of_many cd_law_is_unfit cd_law ct_ask_as_many ct_is_in ct_greatest_shift ct_integer_places ct_touched ct_is_made_of ct_law_urn ct_law_take ct_law_one ct_law_whole ct_law_row_of ct_law_plus ct_law_more ct_law_made ct_law_near ct_law_reaches ct_law_is_made ct_law_is_right ct_law_of_two ct_law_of_many ct_law_is_unfit ct_law : Value} {U_Unfit : Addr}
    (a_ask_as_many : PySem.W.nsIn K mainGlobals "ask_as_many" = some (some (.ref f_ask_as_many))) (l_ask_as_many : K.lookup f_ask_as_many = some ⟨oc_ask_as_many, od_ask_as_many, .func (PySem.W.fnOf "ask_as_many" "ask_as_many" (defArgs s_ask_as_many) (defBody s_ask_as_many) (defScope s_ask_as_many) .none kV_ask_as_many dc_ask_as_many pm_ask_as_many an_ask_as_many cd_ask_as_many ct_ask_as_many), sl_ask_as_many⟩) (c_ask_as_many : PySem.W.codeIn K cd_ask_as_many "ask_as_many" = true) (k_ask_as_many : PySem.W.keepIn K (.ref f_ask_as_many) = true)
    (a_is_in : PySem.W.nsIn K mainGlobals "is_in" = some (some (.ref f_is_in))) (l_is_in : K.lookup f_is_in = some ⟨oc_is_in, od_is_in, .func (PySem.W.fnOf "is_in" "is_in" (defArgs s_is_in) (defBody s_is_in) (defScope s_is_in) .none kV_is_in dc_is_in pm_is_in an_is_in cd_is_in ct_is_in), sl_is_in⟩) (c_is_in : PySem.W.codeIn K cd_is_in "is_in" = true) (k_is_in : PySem.W.keepIn K (.ref f_is_in) = true)
    (a_greatest_shift : PySem.W.nsIn K mainGlobals "greatest_shift" = some (some (.ref f_greatest_shift))) (l_greatest_shift : K.lookup f_greatest_shift = some ⟨oc_greatest_shift, od_greatest_shift, .func (PySem.W.fnOf "greatest_shift" "greatest_shift" (defArgs s_greatest_shift) (defBody s_greatest_shift) (defScope s_greatest_shift) .none kV_greatest_shift dc_greatest_shift pm_greatest_shift an_greatest_shift cd_greatest_shift ct_greatest_shift), sl_greatest_shift⟩) (c_greatest_shift : PySem.W.codeIn K cd_greatest_shift "greatest_shift" = true) (k_greatest_shift : PySem.W.keepIn K (.ref f_greatest_shift) = true)
    (a_integer_places : PySem.W.nsIn K mainGlobals "integer_places" = some (some (.ref f_integer_places))) (l_integer_places : K.lookup f_integer_places = some ⟨oc_integer_places, od_integer_places, .func (PySem.W.fnOf "integer_places" "integer_places" (defArgs s_integer_places) (defBody s_integer_places) (defScope s_integer_places) .none kV_integer_places dc_integer_places pm_integer_places an_integer_places cd_integer_places ct_integer_places), sl_integer_places⟩) (c_integer_places : PySem.W.codeIn K cd_integer_places "integer_places" = true) (k_integer_places : PySem.W.keepIn K (.ref f_integer_places) = true)
    (a_touched : PySem.W.nsIn K mainGlobals "touched" = some (some (.ref f_touched))) (l_touched : K.lookup f_touched = some ⟨oc_touched, od_touched, .func (PySem.W.fnOf "touched" "touched" (defArgs s_touched) (defBody s_touched) (defScope s_touched) .none kV_touched dc_touched pm_touched an_touched cd_touched ct_touched), sl_touched⟩) (c_touched : PySem.W.codeIn K cd_touched "touched" = true) (k_touched : PySem.W.keepIn K (.ref f_touched) = true)
    (a_is_made_of : PySem.W.nsIn K mainGlobals "is_made_of" = some (some (.ref f_is_made_of))) (l_is_made_of : K.lookup f_is_made_of = some ⟨oc_is_made_of, od_is_made_of, .func (PySem.W.fnOf "is_made_of" "is_made_of" (defArgs s_is_made_of) (defBody s_is_made_of) (defScope s_is_made_of) .none kV_is_made_of dc_is_made_of pm_is_made_of an_is_made_of cd_is_made_of ct_is_made_of), sl_is_made_of⟩) (c_is_made_of : PySem.W.codeIn K cd_is_made_of "is_made_of" = true) (k_is_made_of : PySem.W.keepIn K (.ref f_is_made_of) = true)
    (a_law_urn : PySem.W.nsIn K mainGlobals "_law_urn" = some (some (.ref f_law_urn))) (l_law_urn : K.lookup f_law_urn = some ⟨oc_law_urn, od_law_urn, .func (PySem.W.fnOf "_law_urn" "_law_urn" (defArgs sUrn) (defBody sUrn) (defScope sUrn) .none kV_law_urn dc_law_urn pm_law_urn an_law_urn cd_law_urn ct_law_urn), sl_law_urn⟩) (c_law_urn : PySem.W.codeIn K cd_law_urn "_law_urn" = true) (k_law_urn : PySem.W.keepIn K (.ref f_law_urn) = true)
    (a_law_take : PySem.W.nsIn K mainGlobals "_law_take" = some (some (.ref f_law_take))) (l_law_take : K.lookup f_law_take = some ⟨oc_law_take, od_law_take, .func (PySem.W.fnOf "_law_take" "_law_take" (defArgs sTake) (defBody sTake) (defScope sTake) .none kV_law_take dc_law_take pm_law_take an_law_take cd_law_take ct_law_take), sl_law_take⟩) (c_law_take : PySem.W.codeIn K cd_law_take "_law_take" = true) (k_law_take : PySem.W.keepIn K (.ref f_law_take) = true)
    (a_law_one : PySem.W.nsIn K mainGlobals "_law_one" = some (some (.ref f_law_one))) (l_law_one : K.lookup f_law_one = some ⟨oc_law_one, od_law_one, .func (PySem.W.fnOf "_law_one" "_law_one" (defArgs s_law_one) (defBody s_law_one) (defScope s_law_one) .none kV_law_one dc_law_one pm_law_one an_law_one cd_law_one ct_law_one), sl_law_one⟩) (c_law_one : PySem.W.codeIn K cd_law_one "_law_one" = true) (k_law_one : PySem.W.keepIn K (.ref f_law_one) = true)
    (a_law_whole : PySem.W.nsIn K mainGlobals "_law_whole" = some (some (.ref f_law_whole))) (l_law_whole : K.lookup f_law_whole = some ⟨oc_law_whole, od_law_whole, .func (PySem.W.fnOf "_law_whole" "_law_whole" (defArgs s_law_whole) (defBody s_law_whole) (defScope s_law_whole) .none kV_law_whole dc_law_whole pm_law_whole an_law_whole cd_law_whole ct_law_whole), sl_law_whole⟩) (c_law_whole : PySem.W.codeIn K cd_law_whole "_law_whole" = true) (k_law_whole : PySem.W.keepIn K (.ref f_law_whole) = true)
    (a_law_row_of : PySem.W.nsIn K mainGlobals "_law_row_of" = some (some (.ref f_law_row_of))) (l_law_row_of : K.lookup f_law_row_of = some ⟨oc_law_row_of, od_law_row_of, .func (PySem.W.fnOf "_law_row_of" "_law_row_of" (defArgs s_law_row_of) (defBody s_law_row_of) (defScope s_law_row_of) .none kV_law_row_of dc_law_row_of pm_law_row_of an_law_row_of cd_law_row_of ct_law_row_of), sl_law_row_of⟩) (c_law_row_of : PySem.W.codeIn K cd_law_row_of "_law_row_of" = true) (k_law_row_of : PySem.W.keepIn K (.ref f_law_row_of) = true)
    (a_law_plus : PySem.W.nsIn K mainGlobals "_law_plus" = some (some (.ref f_law_plus))) (l_law_plus : K.lookup f_law_plus = some ⟨oc_law_plus, od_law_plus, .func (PySem.W.fnOf "_law_plus" "_law_plus" (defArgs s_law_plus) (defBody s_law_plus) (defScope s_law_plus) .none kV_law_plus dc_law_plus pm_law_plus an_law_plus cd_law_plus ct_law_plus), sl_law_plus⟩) (c_law_plus : PySem.W.codeIn K cd_law_plus "_law_plus" = true) (k_law_plus : PySem.W.keepIn K (.ref f_law_plus) = true)
    (a_law_more : PySem.W.nsIn K mainGlobals "_law_more" = some (some (.ref f_law_more))) (l_law_more : K.lookup f_law_more = some ⟨oc_law_more, od_law_more, .func (PySem.W.fnOf "_law_more" "_law_more" (defArgs s_law_more) (defBody s_law_more) (defScope s_law_more) .none kV_law_more dc_law_more pm_law_more an_law_more cd_law_more ct_law_more), sl_law_more⟩) (c_law_more : PySem.W.codeIn K cd_law_more "_law_more" = true) (k_law_more : PySem.W.keepIn K (.ref f_law_more) = true)
    (a_law_made : PySem.W.nsIn K mainGlobals "_law_made" = some (some (.ref f_law_made))) (l_law_made : K.lookup f_law_made = some ⟨oc_law_made, od_law_made, .func (PySem.W.fnOf "_law_made" "_law_made" (defArgs s_law_made) (defBody s_law_made) (defScope s_law_made) .none kV_law_made dc_law_made pm_law_made an_law_made cd_law_made ct_law_made), sl_law_made⟩) (c_law_made : PySem.W.codeIn K cd_law_made "_law_made" = true) (k_law_made : PySem.W.keepIn K (.ref f_law_made) = true)
    (a_law_near : PySem.W.nsIn K mainGlobals "_law_near" = some (some (.ref f_law_near))) (l_law_near : K.lookup f_law_near = some ⟨oc_law_near, od_law_near, .func (PySem.W.fnOf "_law_near" "_law_near" (defArgs s_law_near) (defBody s_law_near) (defScope s_law_near) .none kV_law_near dc_law_near pm_law_near an_law_near cd_law_near ct_law_near), sl_law_near⟩) (c_law_near : PySem.W.codeIn K cd_law_near "_law_near" = true) (k_law_near : PySem.W.keepIn K (.ref f_law_near) = true)
    (a_law_reaches : PySem.W.nsIn K mainGlobals "_law_reaches" = some (some (.ref f_law_reaches))) (l_law_reaches : K.lookup f_law_reaches = some ⟨oc_law_reaches, od_law_reaches, .func (PySem.W.fnOf "_law_reaches" "_law_reaches" (defArgs s_law_reaches) (defBody s_law_reaches) (defScope s_law_reaches) .none kV_law_reaches dc_law_reaches pm_law_reaches an_law_reaches cd_law_reaches ct_law_reaches), sl_law_reaches⟩) (c_law_reaches : PySem.W.codeIn K cd_law_reaches "_law_reaches" = true) (k_law_reaches : PySem.W.keepIn K (.ref f_law_reaches) = true)
    (a_law_is_made : PySem.W.nsIn K mainGlobals "_law_is_made" = some (some (.ref f_law_is_made))) (l_law_is_made : K.lookup f_law_is_made = some ⟨oc_law_is_made, od_law_is_made, .func (PySem.W.fnOf "_law_is_made" "_law_is_made" (defArgs s_law_is_made) (defBody s_law_is_made) (defScope s_law_is_made) .none kV_law_is_made dc_law_is_made pm_law_is_made an_law_is_made cd_law_is_made ct_law_is_made), sl_law_is_made⟩) (c_law_is_made : PySem.W.codeIn K cd_law_is_made "_law_is_made" = true) (k_law_is_made : PySem.W.keepIn K (.ref f_law_is_made) = true)
    (a_law_is_right : PySem.W.nsIn K mainGlobals "_law_is_right" = some (some (.ref f_law_is_right))) (l_law_is_right : K.lookup f_law_is_right = some ⟨oc_law_is_right, od_law_is_right, .func (PySem.W.fnOf "_law_is_right" "_law_is_right" (defArgs s_law_is_right) (defBody s_law_is_right) (defScope s_law_is_right) .none kV_law_is_right dc_law_is_right pm_law_is_right an_law_is_right cd_law_is_right ct_law_is_right), sl_law_is_right⟩) (c_law_is_right : PySem.W.codeIn K cd_law_is_right "_law_is_right" = true) (k_law_is_right : PySem.W.keepIn K (.ref f_law_is_right) = true)
    (a_law_of_two : PySem.W.nsIn K mainGlobals "_law_of_two" = some (some (.ref f_law_of_two))) (l_law_of_two : K.lookup f_law_of_two = some ⟨oc_law_of_two, od_law_of_two, .func (PySem.W.fnOf "_law_of_two" "_law_of_two" (defArgs s_law_of_two) (defBody s_law_of_two) (defScope s_law_of_two) .none kV_law_of_two dc_law_of_two pm_law_of_two an_law_of_two cd_law_of_two ct_law_of_two), sl_law_of_two⟩) (c_law_of_two : PySem.W.codeIn K cd_law_of_two "_law_of_two" = true) (k_law_of_two : PySem.W.keepIn K (.ref f_law_of_two) = true)
    (a_law_of_many : PySem.W.nsIn K mainGlobals "_law_of_many" = some (some (.ref f_law_of_many))) (l_law_of_many : K.lookup f_law_of_many = some ⟨oc_law_of_many, od_law_of_many, .func (PySem.W.fnOf "_law_of_many" "_law_of_many" (defArgs s_law_of_many) (defBody s_law_of_many) (defScope s_law_of_many) .none kV_law_of_many dc_law_of_many pm_law_of_many an_law_of_many cd_law_of_many ct_law_of_many), sl_law_of_many⟩) (c_law_of_many : PySem.W.codeIn K cd_law_of_many "_law_of_many" = true) (k_law_of_many : PySem.W.keepIn K (.ref f_law_of_many) = true)
    (a_law_is_unfit : PySem.W.nsIn K mainGlobals "_law_is_unfit" = some (some (.ref f_law_is_unfit))) (l_law_is_unfit : K.lookup f_law_is_unfit = some ⟨oc_law_is_unfit, od_law_is_unfit, .func (PySem.W.fnOf "_law_is_unfit" "_law_is_unfit" (defArgs s_law_is_unfit) (defBody s_law_is_unfit) (defScope s_law_is_unfit) .none kV_law_is_unfit dc_law_is_unfit pm_law_is_unfit an_law_is_unfit cd_law_is_unfit ct_law_is_unfit), sl_law_is_unfit⟩) (c_law_is_unfit : PySem.W.codeIn K cd_law_is_unfit "_law_is_unfit" = true) (k_law_is_unfit : PySem.W.keepIn K (.ref f_law_is_unfit) = true)
    (a_law : PySem.W.nsIn K mainGlobals "law" = some (some (.ref f_law))) (l_law : K.lookup f_law = some ⟨oc_law, od_law, .func (PySem.W.fnOf "law" "law" (defArgs s_law) (defBody s_law) (defScope s_law) .none kV_law dc_law pm_law an_law cd_law ct_law), sl_law⟩) (c_law : PySem.W.codeIn K cd_law "law" = true) (k_law : PySem.W.keepIn K (.ref f_law) = true)
    (z_len : PySem.W.nsIn K mainGlobals "len" = some none)
    (z_tuple : PySem.W.nsIn K mainGlobals "tuple" = some none)
    (z_all : PySem.W.nsIn K mainGlobals "all" = some none)
    (z_any : PySem.W.nsIn K mainGlobals "any" = some none)
    (z_isinstance : PySem.W.nsIn K mainGlobals "isinstance" = some none)
    (z_repr : PySem.W.nsIn K mainGlobals "repr" = some none)
    (z_list : PySem.W.nsIn K mainGlobals "list" = some none)
    (z_sum : PySem.W.nsIn K mainGlobals "sum" = some none)
    (z_abs : PySem.W.nsIn K mainGlobals "abs" = some none)
    (z_int : PySem.W.nsIn K mainGlobals "int" = some none)
    (z_range : PySem.W.nsIn K mainGlobals "range" = some none)
    (z_zip : PySem.W.nsIn K mainGlobals "zip" = some none)
    (z_enumerate : PySem.W.nsIn K mainGlobals "enumerate" = some none)
    (z_min : PySem.W.nsIn K mainGlobals "min" = some none)
    (z_max : PySem.W.nsIn K mainGlobals "max" = some none)
    (z_str : PySem.W.nsIn K mainGlobals "str" = some none)
    (z_bool : PySem.W.nsIn K mainGlobals "bool" = some none)
    (z_sorted : PySem.W.nsIn K mainGlobals "sorted" = some none)
    (z_set : PySem.W.nsIn K mainGlobals "set" = some none)
    (z_dict : PySem.W.nsIn K mainGlobals "dict" = some none)
    (z_reversed : PySem.W.nsIn K mainGlobals "reversed" = some none)
    (z_type : PySem.W.nsIn K mainGlobals "type" = some none)
    (u_Unfit : PySem.W.nsIn K mainGlobals "Unfit" = some (some (.ref U_Unfit))) (ue_Unfit : PySem.W.excIn K U_Unfit bmVE "ValueError.__new__" = true) (uk_Unfit : PySem.W.keepIn K (.ref U_Unfit) = true) (ub_Unfit : PySem.W.subIn K (.ref U_Unfit) (.type "BaseException") = some true) (ut_Unfit : PySem.W.typeIn K (.ref U_Unfit) = some (.type "type"))
    (ui_Unfit : PySem.W.isClsIn K U_Unfit = true) (uy_Unfit : PySem.W.typeIn K (.ref U_Unfit) = some (.type "type")) (uz_Unfit : PySem.W.subIn K (.ref U_Unfit) (.type "BaseException") = some true)
    (us_Unfit_Unfit : PySem.W.subIn K (.ref U_Unfit) (.ref U_Unfit) = some true)
    (zS : PySem.W.nsIn K cStatics "sys.int_max_str_digits" = some none) :
    ∃ fd : FuncData, (∀ (s : Shared) (v : Value), BindsTo s fd ⟨[v], []⟩ [("script", v)]) ∧ ∀ base : Heap, Mod K mg base → FnG l.prog w K mg base 6 fa fd ["script"] (spLaw K) := by
  have e := hfa.symm.trans (PySem.W.mg_of X G a_law)
  cases e
  have B : Bl mg := ⟨PySem.W.mg_none_of X G z_len, PySem.W.mg_none_of X G z_tuple, PySem.W.mg_none_of X G z_all, PySem.W.mg_none_of X G z_any, PySem.W.mg_none_of X G z_isinstance, PySem.W.mg_none_of X G z_repr, PySem.W.mg_none_of X G z_list, PySem.W.mg_none_of X G z_sum, PySem.W.mg_none_of X G z_abs, PySem.W.mg_none_of X G z_int, PySem.W.mg_none_of X G z_range, PySem.W.mg_none_of X G z_zip, PySem.W.mg_none_of X G z_enumerate, PySem.W.mg_none_of X G z_min, PySem.W.mg_none_of X G z_max, PySem.W.mg_none_of X G z_str, PySem.W.mg_none_of X G z_bool, PySem.W.mg_none_of X G z_sorted, PySem.W.mg_none_of X G z_set, PySem.W.mg_none_of X G z_dict, PySem.W.mg_none_of X G z_reversed, PySem.W.mg_none_of X G z_type⟩
  have F_ask_as_many := fun_mk (st := s_ask_as_many) l_ask_as_many c_ask_as_many k_ask_as_many
  have b_ask_as_many := F_ask_as_many.binds (ps := ["one_places", "other_places"]) fun _ _ _ _ _ _ us hl => match us, hl with | [_, _], _ => rfl
  have m_ask_as_many : mg "ask_as_many" = some (.ref f_ask_as_many) := PySem.W.mg_of X G a_ask_as_many
  have F_is_in := fun_mk (st := s_is_in) l_is_in c_is_in k_is_in
  have b_is_in := F_is_in.binds (ps := ["lot", "row"]) fun _ _ _ _ _ _ us hl => match us, hl with | [_, _], _ => rfl
  have m_is_in : mg "is_in" = some (.ref f_is_in) := PySem.W.mg_of X G a_is_in
  have F_greatest_shift := fun_mk (st := s_greatest_shift) l_greatest_shift c_greatest_shift k_greatest_shift
  have b_greatest_shift := F_greatest_shift.binds (ps := ["one_row", "other_row"]) fun _ _ _ _ _ _ us hl => match us, hl with | [_, _], _ => rfl
  have m_greatest_shift : mg "greatest_shift" = some (.ref f_greatest_shift) := PySem.W.mg_of X G a_greatest_shift
  have F_integer_places := fun_mk (st := s_integer_places) l_integer_places c_integer_places k_integer_places
  have b_integer_places := F_integer_places.binds (ps := ["side"]) fun _ _ _ _ _ _ us hl => match us, hl with | [_], _ => rfl
  have m_integer_places : mg "integer_places" = some (.ref f_integer_places) := PySem.W.mg_of X G a_integer_places
  have F_touched := fun_mk (st := s_touched) l_touched c_touched k_touched
  have b_touched := F_touched.binds (ps := ["one_row", "other_row"]) fun _ _ _ _ _ _ us hl => match us, hl with | [_, _], _ => rfl
  have m_touched : mg "touched" = some (.ref f_touched) := PySem.W.mg_of X G a_touched
  have F_is_made_of := fun_mk (st := s_is_made_of) l_is_made_of c_is_made_of k_is_made_of
  have b_is_made_of := F_is_made_of.binds (ps := ["rows", "row"]) fun _ _ _ _ _ _ us hl => match us, hl with | [_, _], _ => rfl
  have m_is_made_of : mg "is_made_of" = some (.ref f_is_made_of) := PySem.W.mg_of X G a_is_made_of
  have F_law_urn := fun_mk (st := sUrn) l_law_urn c_law_urn k_law_urn
  have b_law_urn := F_law_urn.binds (ps := ["script"]) fun _ _ _ _ _ _ us hl => match us, hl with | [_], _ => rfl
  have m_law_urn : mg "_law_urn" = some (.ref f_law_urn) := PySem.W.mg_of X G a_law_urn
  have F_law_take := fun_mk (st := sTake) l_law_take c_law_take k_law_take
  have b_law_take := F_law_take.binds (ps := ["urn", "size"]) fun _ _ _ _ _ _ us hl => match us, hl with | [_, _], _ => rfl
  have m_law_take : mg "_law_take" = some (.ref f_law_take) := PySem.W.mg_of X G a_law_take
  have F_law_one := fun_mk (st := s_law_one) l_law_one c_law_one k_law_one
  have b_law_one := F_law_one.binds (ps := ["urn", "items"]) fun _ _ _ _ _ _ us hl => match us, hl with | [_, _], _ => rfl
  have m_law_one : mg "_law_one" = some (.ref f_law_one) := PySem.W.mg_of X G a_law_one
  have F_law_whole := fun_mk (st := s_law_whole) l_law_whole c_law_whole k_law_whole
  have b_law_whole := F_law_whole.binds (ps := ["urn", "world"]) fun _ _ _ _ _ _ us hl => match us, hl with | [_, _], _ => rfl
  have m_law_whole : mg "_law_whole" = some (.ref f_law_whole) := PySem.W.mg_of X G a_law_whole
  have F_law_row_of := fun_mk (st := s_law_row_of) l_law_row_of c_law_row_of k_law_row_of
  have b_law_row_of := F_law_row_of.binds (ps := ["urn", "wide", "world"]) fun _ _ _ _ _ _ us hl => match us, hl with | [_, _, _], _ => rfl
  have m_law_row_of : mg "_law_row_of" = some (.ref f_law_row_of) := PySem.W.mg_of X G a_law_row_of
  have F_law_plus := fun_mk (st := s_law_plus) l_law_plus c_law_plus k_law_plus
  have b_law_plus := F_law_plus.binds (ps := ["line", "much"]) fun _ _ _ _ _ _ us hl => match us, hl with | [_, _], _ => rfl
  have m_law_plus : mg "_law_plus" = some (.ref f_law_plus) := PySem.W.mg_of X G a_law_plus
  have F_law_more := fun_mk (st := s_law_more) l_law_more c_law_more k_law_more
  have b_law_more := F_law_more.binds (ps := ["one", "other"]) fun _ _ _ _ _ _ us hl => match us, hl with | [_, _], _ => rfl
  have m_law_more : mg "_law_more" = some (.ref f_law_more) := PySem.W.mg_of X G a_law_more
  have F_law_made := fun_mk (st := s_law_made) l_law_made c_law_made k_law_made
  have b_law_made := F_law_made.binds (ps := ["urn", "rows", "world"]) fun _ _ _ _ _ _ us hl => match us, hl with | [_, _, _], _ => rfl
  have m_law_made : mg "_law_made" = some (.ref f_law_made) := PySem.W.mg_of X G a_law_made
  have F_law_near := fun_mk (st := s_law_near) l_law_near c_law_near k_law_near
  have b_law_near := F_law_near.binds (ps := ["urn", "line", "world"]) fun _ _ _ _ _ _ us hl => match us, hl with | [_, _, _], _ => rfl
  have m_law_near : mg "_law_near" = some (.ref f_law_near) := PySem.W.mg_of X G a_law_near
  have F_law_reaches := fun_mk (st := s_law_reaches) l_law_reaches c_law_reaches k_law_reaches
  have b_law_reaches := F_law_reaches.binds (ps := ["own", "line", "at"]) fun _ _ _ _ _ _ us hl => match us, hl with | [_, _, _], _ => rfl
  have m_law_reaches : mg "_law_reaches" = some (.ref f_law_reaches) := PySem.W.mg_of X G a_law_reaches
  have F_law_is_made := fun_mk (st := s_law_is_made) l_law_is_made c_law_is_made k_law_is_made
  have b_law_is_made := F_law_is_made.binds (ps := ["rows", "line"]) fun _ _ _ _ _ _ us hl => match us, hl with | [_, _], _ => rfl
  have m_law_is_made : mg "_law_is_made" = some (.ref f_law_is_made) := PySem.W.mg_of X G a_law_is_made
  have F_law_is_right := fun_mk (st := s_law_is_right) l_law_is_right c_law_is_right k_law_is_right
  have b_law_is_right := F_law_is_right.binds (ps := ["urn", "rows", "line", "world"]) fun _ _ _ _ _ _ us hl => match us, hl with | [_, _, _, _], _ => rfl
  have m_law_is_right : mg "_law_is_right" = some (.ref f_law_is_right) := PySem.W.mg_of X G a_law_is_right
  have F_law_of_two := fun_mk (st := s_law_of_two) l_law_of_two c_law_of_two k_law_of_two
  have b_law_of_two := F_law_of_two.binds (ps := ["urn", "world"]) fun _ _ _ _ _ _ us hl => match us, hl with | [_, _], _ => rfl
  have m_law_of_two : mg "_law_of_two" = some (.ref f_law_of_two) := PySem.W.mg_of X G a_law_of_two
  have F_law_of_many := fun_mk (st := s_law_of_many) l_law_of_many c_law_of_many k_law_of_many
  have b_law_of_many := F_law_of_many.binds (ps := ["urn"]) fun _ _ _ _ _ _ us hl => match us, hl with | [_], _ => rfl
  have m_law_of_many : mg "_law_of_many" = some (.ref f_law_of_many) := PySem.W.mg_of X G a_law_of_many
  have F_law_is_unfit := fun_mk (st := s_law_is_unfit) l_law_is_unfit c_law_is_unfit k_law_is_unfit
  have b_law_is_unfit := F_law_is_unfit.binds (ps := ["rows", "wide", "line"]) fun _ _ _ _ _ _ us hl => match us, hl with | [_, _, _], _ => rfl
  have m_law_is_unfit : mg "_law_is_unfit" = some (.ref f_law_is_unfit) := PySem.W.mg_of X G a_law_is_unfit
  have F_law := fun_mk (st := s_law) l_law c_law k_law
  have g_Unfit : mg "Unfit" = some (.ref U_Unfit) := PySem.W.mg_of X G u_Unfit
  have X_Unfit : Exc0C K mg "Unfit" := ⟨_, g_Unfit, ue_Unfit, uk_Unfit, ub_Unfit, ut_Unfit⟩
  have M_Unfit : ExMs K mg (.ref U_Unfit) cs_Unfit := (ExMs.cons g_Unfit (exm_sub uz_Unfit ui_Unfit uy_Unfit us_Unfit_Unfit) ExMs.nil)
  refine ⟨PySem.W.fnOf "law" "law" (defArgs s_law) (defBody s_law) (defScope s_law) .none kV_law dc_law pm_law an_law cd_law ct_law, fun s v => .of_eq rfl, fun base hM => ?_⟩
  have St : StatAt base := stat_of hM.kin hM.nolimit zS
  have A1_ask_as_many := fa_ask_as_many (P := l.prog) (w := w) (mg := mg) (base := base) F_ask_as_many B X_Unfit
  have C_ask_as_many : CalA UrnAt l.prog w K mg base "ask_as_many" 1 ["one_places", "other_places"] A_ask_as_many := ⟨_, _, A1_ask_as_many, m_ask_as_many, k_ask_as_many, b_ask_as_many⟩
  have A1_greatest_shift := fa_greatest_shift (P := l.prog) (w := w) (mg := mg) (base := base) F_greatest_shift B
  have C_greatest_shift : CalA UrnAt l.prog w K mg base "greatest_shift" 1 ["one_row", "other_row"] A_greatest_shift := ⟨_, _, A1_greatest_shift, m_greatest_shift, k_greatest_shift, b_greatest_shift⟩
  have A1_integer_places := fa_integer_places (P := l.prog) (w := w) (mg := mg) (base := base) F_integer_places B
  have C_integer_places : CalA UrnAt l.prog w K mg base "integer_places" 1 ["side"] A_integer_places := ⟨_, _, A1_integer_places, m_integer_places, k_integer_places, b_integer_places⟩
  have C_law_urn : Cal l.prog w K mg base "_law_urn" 1 ["script"] (spUrn K) := ⟨_, _, ok_urn F_law_urn B, m_law_urn, k_law_urn, b_law_urn⟩
  have C_law_take : CalA UrnAt l.prog w K mg base "_law_take" 1 ["urn", "size"] A_law_take := ⟨_, _, fa_take (ok_take F_law_take B), m_law_take, k_law_take, b_law_take⟩
  have A1_law_plus := fa_law_plus (P := l.prog) (w := w) (mg := mg) (base := base) F_law_plus B
  have C_law_plus : CalA UrnAt l.prog w K mg base "_law_plus" 1 ["line", "much"] A_law_plus := ⟨_, _, A1_law_plus, m_law_plus, k_law_plus, b_law_plus⟩
  have A1_law_more := fa_law_more (P := l.prog) (w := w) (mg := mg) (base := base) F_law_more B
  have C_law_more : CalA UrnAt l.prog w K mg base "_law_more" 1 ["one", "other"] A_law_more := ⟨_, _, A1_law_more, m_law_more, k_law_more, b_law_more⟩
  have A1_law_reaches := fa_law_reaches (P := l.prog) (w := w) (mg := mg) (base := base) F_law_reaches B
  have C_law_reaches : CalA UrnAt l.prog w K mg base "_law_reaches" 1 ["own", "line", "at"] A_law_reaches := ⟨_, _, A1_law_reaches, m_law_reaches, k_law_reaches, b_law_reaches⟩
  have A1_touched := fa_touched (P := l.prog) (w := w) (mg := mg) (base := base) F_touched B C_greatest_shift C_integer_places
  have C_touched : CalA UrnAt l.prog w K mg base "touched" 2 ["one_row", "other_row"] A_touched := ⟨_, _, A1_touched, m_touched, k_touched, b_touched⟩
  have A1_law_one := fa_law_one (P := l.prog) (w := w) (mg := mg) (base := base) F_law_one B C_law_take
  have C_law_one : CalA UrnAt l.prog w K mg base "_law_one" 2 ["urn", "items"] A_law_one := ⟨_, _, A1_law_one, m_law_one, k_law_one, b_law_one⟩
  have A1_law_whole := fa_law_whole (P := l.prog) (w := w) (mg := mg) (base := base) F_law_whole B C_law_take
  have C_law_whole : CalA UrnAt l.prog w K mg base "_law_whole" 2 ["urn", "world"] A_law_whole := ⟨_, _, A1_law_whole, m_law_whole, k_law_whole, b_law_whole⟩
  have A1_law_is_made := fa_law_is_made (P := l.prog) (w := w) (mg := mg) (base := base) F_law_is_made B C_law_reaches
  have C_law_is_made : CalA UrnAt l.prog w K mg base "_law_is_made" 2 ["rows", "line"] A_law_is_made := ⟨_, _, A1_law_is_made, m_law_is_made, k_law_is_made, b_law_is_made⟩
  have A1_is_made_of := fa_is_made_of (P := l.prog) (w := w) (mg := mg) (base := base) F_is_made_of B C_integer_places C_touched
  have C_is_made_of : CalA UrnAt l.prog w K mg base "is_made_of" 3 ["rows", "row"] A_is_made_of := ⟨_, _, A1_is_made_of, m_is_made_of, k_is_made_of, b_is_made_of⟩
  have A1_law_row_of := fa_law_row_of (P := l.prog) (w := w) (mg := mg) (base := base) F_law_row_of B C_law_one C_law_whole C_law_take
  have C_law_row_of : CalA UrnAt l.prog w K mg base "_law_row_of" 3 ["urn", "wide", "world"] A_law_row_of := ⟨_, _, A1_law_row_of, m_law_row_of, k_law_row_of, b_law_row_of⟩
  have A1_law_made := fa_law_made (P := l.prog) (w := w) (mg := mg) (base := base) F_law_made B C_law_plus C_law_take C_law_whole C_law_more
  have C_law_made : CalA UrnAt l.prog w K mg base "_law_made" 3 ["urn", "rows", "world"] A_law_made := ⟨_, _, A1_law_made, m_law_made, k_law_made, b_law_made⟩
  have A1_law_near := fa_law_near (P := l.prog) (w := w) (mg := mg) (base := base) F_law_near B C_law_take C_law_whole C_law_one
  have C_law_near : CalA UrnAt l.prog w K mg base "_law_near" 3 ["urn", "line", "world"] A_law_near := ⟨_, _, A1_law_near, m_law_near, k_law_near, b_law_near⟩
  have A1_is_in := fa_is_in (P := l.prog) (w := w) (mg := mg) (base := base) F_is_in B C_ask_as_many C_is_made_of
  have C_is_in : CalA UrnAt l.prog w K mg base "is_in" 4 ["lot", "row"] A_is_in := ⟨_, _, A1_is_in, m_is_in, k_is_in, b_is_in⟩
  have D_is_in_s : CalKA UrnAt l.prog w K mg base "is_in" 4 ["lot", "row"] ["row", "lot"] g2s g2s A_is_in := ⟨_, _, A1_is_in, m_is_in, k_is_in, kb2s F_is_in fun _ _ _ _ _ _ _ _ => rfl⟩
  have A1_law_is_right := fa_law_is_right (P := l.prog) (w := w) (mg := mg) (base := base) F_law_is_right B St C_law_plus C_law_is_made C_law_take C_law_whole C_is_in D_is_in_s
  have C_law_is_right : CalA UrnAt l.prog w K mg base "_law_is_right" 5 ["urn", "rows", "line", "world"] A_law_is_right := ⟨_, _, A1_law_is_right, m_law_is_right, k_law_is_right, b_law_is_right⟩
  have A1_law_of_two := fa_law_of_two (P := l.prog) (w := w) (mg := mg) (base := base) F_law_of_two B St C_law_take C_law_plus C_is_in C_law_whole
  have C_law_of_two : CalA UrnAt l.prog w K mg base "_law_of_two" 5 ["urn", "world"] A_law_of_two := ⟨_, _, A1_law_of_two, m_law_of_two, k_law_of_two, b_law_of_two⟩
  have A1_law_of_many := fa_law_of_many (P := l.prog) (w := w) (mg := mg) (base := base) F_law_of_many B St C_law_one C_law_take C_law_plus C_law_more C_is_in
  have C_law_of_many : CalA UrnAt l.prog w K mg base "_law_of_many" 5 ["urn"] A_law_of_many := ⟨_, _, A1_law_of_many, m_law_of_many, k_law_of_many, b_law_of_many⟩
  have A1_law_is_unfit := fa_law_is_unfit (P := l.prog) (w := w) (mg := mg) (base := base) F_law_is_unfit B g_Unfit M_Unfit C_is_in
  have C_law_is_unfit : CalA UrnAt l.prog w K mg base "_law_is_unfit" 5 ["rows", "wide", "line"] A_law_is_unfit := ⟨_, _, A1_law_is_unfit, m_law_is_unfit, k_law_is_unfit, b_law_is_unfit⟩
  exact fg_law F_law B St C_law_urn C_law_of_many C_law_row_of C_law_one C_law_made C_law_take C_law_is_made C_law_is_right C_law_of_two C_law_is_unfit C_law_plus C_law_near C_is_in law_holds
theorem walk {l : PySem.W.OpenLaw} {q : Program} {loose : List Str} {XP : (Str → Option Value) → Heap → Prop} {YP : World → Heap → Prop} {d : DefRec} {K : Params → PySem.W.Frag} (hn : l.most = some 63) (hdf : d.params.defaults = [])
    (hY : ∀ (w : World) (h : Heap), YP w h → (K w.params).In h)
    (F : ∀ (w : World) (mg : Str → Option Value) (fa : Addr) (h : Heap), (K w.params).In h → h.Ns mainGlobals mg → mg d.name = some (.ref fa) →
      ∃ fd : FuncData, (∀ (s : Shared) (u : Value), BindsTo s fd ⟨[u], []⟩ [("script", u)]) ∧ ∀ base : Heap, Mod (K w.params) mg base → FnG l.prog w (K w.params) mg base 6 fa fd ["script"] (spLaw (K w.params))) :
    PySem.W.WalkO q loose XP YP l.row.toRowW d [] (fun f vs => PySem.call f vs) :=
  walk_G (n := 63) (k := 6) (x := "script") (sp := fun K => spLaw K) hn (by decide) hdf ⟨rfl, by decide, by decide⟩ hY F (fun _ _ a ns _ _ _ hS => ⟨a, ns, rfl, hS, fun _ => rfl⟩)
end K8

open PySem PySem.W PyProof.Rows in
set_option maxRecDepth 100000 in
set_option maxHeartbeats 0 in
theorem PySem.Challenge.cw_ridgespans_k08_rows_in_spans_holds : PySem.Challenge.rw_ridgespans_k08_rows_in_spans.Holds := by
  w_on; o_law; k_head; (case hw => w_witness2)
  k_fill
  refine K8.walk (l := PySem.Challenge.rw_ridgespans_k08_rows_in_spans) rfl rfl (fun w h Y => PySem.W.kIn_of Y) ?F
  case F =>
    intro w mg fa h hkk G hmg
    refine' K8.all_mk hkk G hmg ?a_ask_as_many ?l_ask_as_many ?c_ask_as_many ?k_ask_as_many ?a_is_in ?l_is_in ?c_is_in ?k_is_in ?a_greatest_shift ?l_greatest_shift ?c_greatest_shift ?k_greatest_shift ?a_integer_places ?l_integer_places ?c_integer_places ?k_integer_places ?a_touched ?l_touched ?c_touched ?k_touched ?a_is_made_of ?l_is_made_of ?c_is_made_of ?k_is_made_of ?a_law_urn ?l_law_urn ?c_law_urn ?k_law_urn ?a_law_take ?l_law_take ?c_law_take ?k_law_take ?a_law_one ?l_law_one ?c_law_one ?k_law_one ?a_law_whole ?l_law_whole ?c_law_whole ?k_law_whole ?a_law_row_of ?l_law_row_of ?c_law_row_of ?k_law_row_of ?a_law_plus ?l_law_plus ?c_law_plus ?k_law_plus ?a_law_more ?l_law_more ?c_law_more ?k_law_more ?a_law_made ?l_law_made ?c_law_made ?k_law_made ?a_law_near ?l_law_near ?c_law_near ?k_law_near ?a_law_reaches ?l_law_reaches ?c_law_reaches ?k_law_reaches ?a_law_is_made ?l_law_is_made ?c_law_is_made ?k_law_is_made ?a_law_is_right ?l_law_is_right ?c_law_is_right ?k_law_is_right ?a_law_of_two ?l_law_of_two ?c_law_of_two ?k_law_of_two ?a_law_of_many ?l_law_of_many ?c_law_of_many ?k_law_of_many ?a_law_is_unfit ?l_law_is_unfit ?c_law_is_unfit ?k_law_is_unfit ?a_law ?l_law ?c_law ?k_law ?z_len ?z_tuple ?z_all ?z_any ?z_isinstance ?z_repr ?z_list ?z_sum ?z_abs ?z_int ?z_range ?z_zip ?z_enumerate ?z_min ?z_max ?z_str ?z_bool ?z_sorted ?z_set ?z_dict ?z_reversed ?z_type ?u_Unfit ?ue_Unfit ?uk_Unfit ?ub_Unfit ?ut_Unfit ?ui_Unfit ?uy_Unfit ?uz_Unfit ?us_Unfit_Unfit ?zS
    (case a_ask_as_many => k_is)
    (case l_ask_as_many => k_is)
    (case c_ask_as_many => k_is)
    (case k_ask_as_many => k_is)
    (case a_is_in => k_is)
    (case l_is_in => k_is)
    (case c_is_in => k_is)
    (case k_is_in => k_is)
    (case a_greatest_shift => k_is)
    (case l_greatest_shift => k_is)
    (case c_greatest_shift => k_is)
    (case k_greatest_shift => k_is)
    (case a_integer_places => k_is)
    (case l_integer_places => k_is)
    (case c_integer_places => k_is)
    (case k_integer_places => k_is)
    (case a_touched => k_is)
    (case l_touched => k_is)
    (case c_touched => k_is)
    (case k_touched => k_is)
    (case a_is_made_of => k_is)
    (case l_is_made_of => k_is)
    (case c_is_made_of => k_is)
    (case k_is_made_of => k_is)
    (case a_law_urn => k_is)
    (case l_law_urn => k_is)
    (case c_law_urn => k_is)
    (case k_law_urn => k_is)
    (case a_law_take => k_is)
    (case l_law_take => k_is)
    (case c_law_take => k_is)
    (case k_law_take => k_is)
    (case a_law_one => k_is)
    (case l_law_one => k_is)
    (case c_law_one => k_is)
    (case k_law_one => k_is)
    (case a_law_whole => k_is)
    (case l_law_whole => k_is)
    (case c_law_whole => k_is)
    (case k_law_whole => k_is)
    (case a_law_row_of => k_is)
    (case l_law_row_of => k_is)
    (case c_law_row_of => k_is)
    (case k_law_row_of => k_is)
    (case a_law_plus => k_is)
    (case l_law_plus => k_is)
    (case c_law_plus => k_is)
    (case k_law_plus => k_is)
    (case a_law_more => k_is)
    (case l_law_more => k_is)
    (case c_law_more => k_is)
    (case k_law_more => k_is)
    (case a_law_made => k_is)
    (case l_law_made => k_is)
    (case c_law_made => k_is)
    (case k_law_made => k_is)
    (case a_law_near => k_is)
    (case l_law_near => k_is)
    (case c_law_near => k_is)
    (case k_law_near => k_is)
    (case a_law_reaches => k_is)
    (case l_law_reaches => k_is)
    (case c_law_reaches => k_is)
    (case k_law_reaches => k_is)
    (case a_law_is_made => k_is)
    (case l_law_is_made => k_is)
    (case c_law_is_made => k_is)
    (case k_law_is_made => k_is)
    (case a_law_is_right => k_is)
    (case l_law_is_right => k_is)
    (case c_law_is_right => k_is)
    (case k_law_is_right => k_is)
    (case a_law_of_two => k_is)
    (case l_law_of_two => k_is)
    (case c_law_of_two => k_is)
    (case k_law_of_two => k_is)
    (case a_law_of_many => k_is)
    (case l_law_of_many => k_is)
    (case c_law_of_many => k_is)
    (case k_law_of_many => k_is)
    (case a_law_is_unfit => k_is)
    (case l_law_is_unfit => k_is)
    (case c_law_is_unfit => k_is)
    (case k_law_is_unfit => k_is)
    (case a_law => k_is)
    (case l_law => k_is)
    (case c_law => k_is)
    (case k_law => k_is)
    (case z_len => k_is)
    (case z_tuple => k_is)
    (case z_all => k_is)
    (case z_any => k_is)
    (case z_isinstance => k_is)
    (case z_repr => k_is)
    (case z_list => k_is)
    (case z_sum => k_is)
    (case z_abs => k_is)
    (case z_int => k_is)
    (case z_range => k_is)
    (case z_zip => k_is)
    (case z_enumerate => k_is)
    (case z_min => k_is)
    (case z_max => k_is)
    (case z_str => k_is)
    (case z_bool => k_is)
    (case z_sorted => k_is)
    (case z_set => k_is)
    (case z_dict => k_is)
    (case z_reversed => k_is)
    (case z_type => k_is)
    (case u_Unfit => k_is)
    (case ue_Unfit => k_exc)
    (case uk_Unfit => k_is)
    (case ub_Unfit => k_is)
    (case ut_Unfit => k_is)
    (case ui_Unfit => k_is)
    (case uy_Unfit => k_is)
    (case uz_Unfit => k_is)
    (case us_Unfit_Unfit => k_is)
    (case zS => k_is)
#print axioms PySem.Challenge.cw_ridgespans_k08_rows_in_spans_holds

