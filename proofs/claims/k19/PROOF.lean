import PyProof.Rows.All
import Wide.All
import OpenK.AllK
import Wide.FinOn
import HandS.ForMost
import HandS.StrMore
import HandS.Wide
import HandS.IsInst
import HandS.Codes
import HandS.Conv
import HandS.Style
import HandS.Ends
import KE.GoesNew
import HandS.ForDict
import HandS.TupMul
import HandS.More
import PySem.Challenge.RW_leastmakers_k19_hands_and_meetings
set_option Elab.async false
set_option linter.all false
set_option maxRecDepth 100000
set_option maxHeartbeats 8000000
/-! repr of whole data, and promises of defs that call it -/
namespace G1
open PySem PySem.Spec PyProof.Rows L2

/-- a promise of a def where no repr is under way around the call -/
structure FnG (P : Program) (w : World) (K : PySem.W.Frag) (mg : Str → Option Value) (base : Heap) (k : Nat) (f : Addr) (fd : FuncData) (ps : List Str) (sp : Sp) : Prop where
  cnt : ∀ vs H Q E, sp vs H Q E → vs.length = ps.length
  go : ∀ (A : Around) (ou : List Env) (s : Shared) (H : Hp) (ar : Args) (us : List Value) (vs : List V) (Q : VK) (E : XK), A.guards = some [] → Room k A →
    Env0 P w K mg base A ou s H → BindsTo s fd ar (ps.zip us) → Vals vs us → sp vs H Q E →
    codeAny (model P w) A (.call (.ref f) ar) (CR CX0 ou P w H s Q E) s

theorem FnG.of {P : Program} {w : World} {K : PySem.W.Frag} {mg : Str → Option Value} {base : Heap} {k : Nat} {f : Addr} {fd : FuncData} {ps : List Str} {sp : Sp}
    (F : FnOk P w K mg base CX0 k f fd ps sp) : FnG P w K mg base k f fd ps sp :=
  ⟨F.len, fun A ou s H ar us vs Q E _ hr he hb hv hs => F.run A ou s H ar us vs Q E hr he hb hv hs⟩

section
variable {P : Program} {w : World} {K : PySem.W.Frag} {mg : Str → Option Value} {base : Heap}
theorem fnG_of {x qual : Str} {st : Stmt} {f : Addr} {fd : FuncData} {N ps : List Str} {k : Nat} {sp : Sp} (F : Fun K x qual st f fd) (S : FnScope N ps (defScope st))
    (cnt : ∀ vs H Q E, sp vs H Q E → vs.length = ps.length)
    (body : ∀ (cdv : Value) (A : Around) (ou : List Env) (s : Shared) (H : Hp) (vs : List V) (Q : VK) (E : XK), A.guards = some [] →
      Room k (A.deeper (envOfC qual (defScope st) s.heap.objs.size f cdv)) → sp vs H Q E →
      ∃ t, PSs (cxOf CX0 P w K mg base N qual (defScope st) f cdv A ou s H E).nox (defBody st) t ∧
        t { nx := fun _ H' => Q .non H', rt := Q } (start N vs) H) :
    FnG P w K mg base (k + 1) f fd ps sp := by
  obtain ⟨oc, od, kV, doc, pm, an, cdv, ct, osl, rfl, lk, hcd⟩ := F.ex
  refine ⟨cnt, fun A ou s H ar us vs Q E hgd hr e0 hb rv hsp => ?_⟩
  have inK : K.In s.heap := e0.mod.kin.keeps fun b o e => (e0.bs b o e).1
  have hlim : s.heap.NoLimit := e0.mod.nolimit.keeps fun b o e => (e0.bs b o e).1
  have kinds : ∀ y ∈ ps.zip us, (defScope st).names.lookup y.1 = some .local ∨
      ((defScope st).names.lookup y.1 = some .cell ∧ ((cellsFrom (s.heap.objs.size + 1) (defScope st).names []).lookup y.1).isSome = true) := by
    intro y hy
    cases S.par y.1 (List.of_mem_zip hy).1 with
    | inl q => exact Or.inl q
    | inr q => exact Or.inr ⟨q, PySem.W.cellsFrom_some _ _ _ (Or.inl q)⟩
  refine codeAny_call_function hr.depth (inK _ _ lk) rfl S.co S.gen rfl (PySem.W.codeRec_of inK hcd) (hb _ _ _ _ ?_)
  refine wpAny_newFunctionEnv_cells S.kind kinds fun env he s1 x => ?_
  subst he
  refine And.intro (hlim.keeps x.toInCall.keep) (codeAny_func ?_)
  obtain ⟨t, ht0, hq⟩ := body cdv A ou s H vs Q E hgd (hr.deeper _) hsp
  have ht := ht0.nox
  have J0 := inv_start (CX := CX0) S hr.hd e0 (cnt _ _ _ _ hsp) rv x (E := E)
  refine wpAny_mono (ht.run [] s1 (start N vs) H _ J0 hq) ?_ (fun e s' hs => hs)
  intro fl s' hs
  cases fl with
  | ret u =>
    obtain ⟨v, σ', H', J, r1, q⟩ := hs
    exact ⟨v, H', J.os, J.bare, J.base, J.hok, r1, q⟩
  | next =>
    obtain ⟨σ', H', J, q⟩ := hs
    exact ⟨V.non, H', J.os, J.bare, J.base, J.hok, rfl, q⟩
  | brk => exact hs.choose_spec.choose_spec.2.elim
  | cont => exact hs.choose_spec.choose_spec.2.elim
end

section
variable {X : Cx} {k : Nat} {f : Addr} {fd : FuncData} {ps ks : List Str} {sp : Sp} {dvs : List V} {ds : List Value} {E : XK} {x : Str} {p pos : Pos} {e : Expr} {es : List Expr} {t : TA}
/-- f(e, ..) of such a def -/
theorem pe_callGd (F : FnG X.prog X.w X.K X.mg X.base k f fd ps sp) (hgd : X.A.guards = some []) (hr : Room k X.A) (hg : Gl X x) (hm : X.mg x = some (.ref f)) (hk : PySem.W.keepIn X.K (.ref f) = true)
    (hb : Binds X.K fd ps []) (ha : PA X (e :: es) t) (hdb : (x == ("__debug__" : Str)) = false := by decide)
    (he : starEach (e :: es) X.env = (false, eval e X.env) :: starEach es X.env := by rfl) (hpl : (backTo pos (starEach es X.env)).any (·.1) = false := by rfl) :
    PE X (.Call (.Name x p) (e :: es) [] pos) (fun σ H Q => t σ H fun vs H1 => sp vs H1 Q E) := by
  refine ⟨fun pins s σ H Q I h => wpAny_Call_Name_kw (ld_glob I hg hm ?_ hdb)⟩
  refine PySem.W.callWith_K (h₀ := X.base) I.ok.mod.kin hk (thn (ha.run pos pins s σ H _ I h) ?_) he hpl
  intro us s1 hus
  obtain ⟨vs, H1, I1, r, q⟩ := hus
  refine ⟨I1.kIn, ?_⟩
  have hl : (us ++ []).length = ps.length := by rw [List.append_nil, ← r.length]; exact F.cnt _ _ _ _ q
  have hbt := hb s1 us I1.kIn hl
  rw [List.append_nil] at hbt
  refine wpAny_call (codeAny_mono (F.go X.A X.stack s1 H1 ⟨us, []⟩ us vs Q E hgd hr I1.env0 hbt r q) ?_)
  intro rr s' hq
  cases rr with
  | error ev => exact hq.elim
  | ok fl =>
    cases fl with
    | ret u => exact I1.after hq
    | next => exact hq.elim
    | brk => exact hq.elim
    | cont => exact hq.elim

/-- repr of a list or a tuple of plain data -/
def rRepr (K : PySem.W.Frag) : List V → Hp → VK → Prop := fun xs H Q => ∃ (a : Addr) (d : PyData), xs = [.ref a] ∧ Dp K H (.ref a) d ∧ d.showable = true ∧ d.hasDict = false ∧ d.depth ≤ 60 ∧
  d.shown.length ≤ sizeLine ∧ Q (.str d.shown) H
theorem call_reprD (hgd : X.A.guards = some []) (hu : X.A.units + 64 < cLine) : CallR X (.builtin "repr") (rRepr X.K) := by
  intro pins s σ H xs us Q I r h
  obtain ⟨a, d, rfl, hd, hs, hnd, hdp, hz, q⟩ := h
  obtain ⟨u, rfl, ru⟩ := vals1 r
  obtain rfl : u = Value.ref a := ru
  obtain ⟨as, r1⟩ := Dp.reads I d (.ref a) (.ref a) hd rfl
  refine repr_of_reads' r1 hs (fun z => by rw [hnd] at z; cases z) hgd (by omega) (fun _ _ e => e) (fun h' tu tk hk => ?_) hz
  refine ⟨.str d.shown, H, ?_, ⟨tu, rfl⟩, q⟩
  exact I.kept (t' := tk) hk
/-- x * n of a text -/
def rMulS : R2 := fun x y H Q => ∃ (z : Str) (n : Int), x = .str z ∧ y = .int n ∧ 0 ≤ n ∧ n < 2 ^ 30 ∧ z.length * n.toNat ≤ 1000000 ∧ Q (.str (Txt.mul z n)) H
end
end G1
/-! the end of a row whose law calls repr -/
namespace G1
open PySem PySem.Spec PyProof.Rows L2

theorem enterG {P : Program} {w : World} {K : PySem.W.Frag} {mg mb : Str → Option Value} {k : Nat} {fa a : Addr} {fd : FuncData} {x : Str} {sp : Sp} {s₁ : Shared} {vs : List Value} {ns : List Int}
    (inK : K.In s₁.heap) (hns : s₁.heap.Ns mainGlobals mg) (hbn : s₁.heap.Ns builtinsNs mb) (hbb : ∀ x : Str, x ≠ "__name__" → mb x = bootBuiltins x) (hlim : s₁.heap.NoLimit) (hg0 : s₁.gens = #[])
    (ha : s₁.heap.get? a = some { cls := .type "list", data := .seq vs.toArray }) (hi : IntsAre vs ns) (hl : ns.length ≤ sizeLine) (hr : Room k callerA)
    (F : ∀ base : Heap, K.In base → base.Ns mainGlobals mg → FnG P w K mg base k fa fd [x] sp)
    (hbind : ∀ (s : Shared) (u : Value), BindsTo s fd ⟨[u], []⟩ [(x, u)])
    (hsp : ∀ H : Hp, Only H → SqL K H a (ns.map V.int) → sp [.ref a] H (fun v _ => v = .bl true) fun _ _ _ => False) :
    codeAny (model P w) callerA (.call (.ref fa) ⟨[.ref a], []⟩)
      (fun r s' => r = .ok (.ret (.bool true)) ∧ OldK s₁.heap s'.heap ∧ s'.os = s₁.os ∧ AllBare s'.gens) s₁ := by
  have rv := vals_ints hi
  have lv := hi.length
  suffices core : ∀ H : Hp, Only H → SqL K H a (ns.map V.int) → HOk P w H s₁.heap → (∀ b, H b ≠ none → b = a ∧ K.lookup a = none) →
      codeAny (model P w) callerA (.call (.ref fa) ⟨[.ref a], []⟩)
        (fun r s' => r = .ok (.ret (.bool true)) ∧ OldK s₁.heap s'.heap ∧ s'.os = s₁.os ∧ AllBare s'.gens) s₁ by
    by_cases hk : K.lookup a = none
    · refine core (fun b => if b = a then some (.frz { cls := .type "list", data := .seq vs.toArray } (.lst (ns.map V.int))) else none) ?_ (Or.inl (Or.inr ⟨_, if_pos rfl⟩)) ?_ ?_
      · intro b
        by_cases hb : b = a
        · exact Or.inr ⟨_, _, if_pos hb⟩
        · exact Or.inl (if_neg hb)
      · intro b u z
        dsimp only at z
        by_cases hb : b = a
        · rw [if_pos hb] at z
          cases z
          subst hb
          exact ⟨ha, by rw [List.length_map]; exact hl, vs, _, rv, ha⟩
        · rw [if_neg hb] at z
          cases z
      · intro b z
        by_cases hb : b = a
        · exact ⟨hb, hk⟩
        · exact absurd (if_neg hb) z
    · obtain ⟨o, ho⟩ := Option.ne_none_iff_exists'.mp hk
      have e := inK a o ho
      rw [ha] at e
      cases e
      exact core (fun _ => none) (fun _ => Or.inl rfl) (Or.inr ⟨_, vs.toArray, _, ho, rfl, rfl, rfl, by rw [List.size_toArray, lv]; exact hl, by simpa using rv⟩)
        (fun b u z => by cases z) (fun b z => absurd rfl z)
  intro H hO hS hok hA
  have untr : ∀ {b : Addr} {o : Obj} {es : Array DictEntry} {ep : Nat}, s₁.heap.get? b = some o → o.data = .dict es ep → H b = none := by
    intro b o es ep e d
    by_cases q : H b = none
    · exact q
    · obtain ⟨rfl, _⟩ := hA b q
      rw [ha] at e
      cases e
      exact nomatch d
  have tohid : ∀ {b : Addr} {m : Str → Option Value}, s₁.heap.Ns b m → (hidT s₁.heap H).Ns b m := by
    rintro b m ⟨o, es, ep, e, d, r⟩
    exact ⟨o, es, ep, hidT_get e (untr e d), d, r⟩
  have hKb : K.In (hidT s₁.heap H) := by
    intro b o e
    refine hidT_get (inK b o e) ?_
    by_cases q : H b = none
    · exact q
    · obtain ⟨rfl, z⟩ := hA b q
      rw [z] at e
      cases e
  obtain ⟨mc, l1, l2⟩ := hlim
  have hM : Mod K mg (hidT s₁.heap H) := ⟨hKb, tohid hns, ⟨mb, tohid hbn, hbb⟩, ⟨mc, tohid l1, l2⟩⟩
  have e0 : Env0 P w K mg (hidT s₁.heap H) callerA [] s₁ H :=
    ⟨rfl, hM, fun b o e => of_hidT e, Nat.le_of_eq (hidT_size _ _), trivial, fun b hb => (List.not_mem_nil hb).elim, hok, .of_eq hg0⟩
  refine codeAny_mono ((F _ hKb (tohid hns)).go callerA [] s₁ H ⟨[.ref a], []⟩ [.ref a] [.ref a] _ _ rfl hr e0 (hbind s₁ (.ref a)) (.cons rfl .nil) (hsp H hO hS)) ?_
  intro r s' h
  cases r with
  | error e => exact h.elim
  | ok fl =>
    cases fl with
    | next => exact h.elim
    | brk => exact h.elim
    | cont => exact h.elim
    | ret u =>
      obtain ⟨v, H', os, bare, un, hok', r', q⟩ := h
      subst q
      obtain rfl : u = Value.bool true := r'
      refine ⟨rfl, OldK.of_keep (fun b o e => ?_), os, bare⟩
      rcases hO b with z | ⟨ob, xs, z⟩
      · exact un.keep b o e z (fun y => (List.not_mem_nil y).elim) List.not_mem_nil
      · obtain ⟨e1, _⟩ := hok b _ z
        obtain ⟨e2, _⟩ := hok' b _ (un.frzs b ob _ z)
        rw [e] at e1
        cases e1
        exact e2

theorem walkG {l : PySem.W.OpenLaw} {n k : Nat} {q : Program} {loose : List Str} {XP : (Str → Option Value) → Heap → Prop} {YP : World → Heap → Prop} {d : DefRec} {K : Params → PySem.W.Frag} {sp : PySem.W.Frag → Sp} {x : Str}
    (hn : l.most = some n) (hn2 : n ≤ sizeLine) (hdf : d.params.defaults = []) (hr : Room k callerA)
    (hY : ∀ (w : World) (h : Heap), YP w h → (K w.params).In h)
    (F : ∀ (w : World) (mg : Str → Option Value) (fa : Addr) (h : Heap), (K w.params).In h → h.Ns mainGlobals mg → mg d.name = some (.ref fa) →
      ∃ fd : FuncData, (∀ (s : Shared) (u : Value), BindsTo s fd ⟨[u], []⟩ [(x, u)]) ∧
        ∀ base : Heap, (K w.params).In base → base.Ns mainGlobals mg → FnG l.prog w (K w.params) mg base k fa fd [x] (sp (K w.params)))
    (hsp : ∀ (K : PySem.W.Frag) (H : Hp) (a : Addr) (ns : List Int), ns.length ≤ n → Only H → SqL K H a (ns.map V.int) → sp K [.ref a] H (fun v _ => v = .bl true) fun _ _ _ => False) :
    PySem.W.WalkO q loose XP YP l.row.toRowW d [] (fun f vs => PySem.call f vs) := by
  refine Att.attach_call hn hdf ?_
  intro w s₀ s₁ mg mb fa o pm cd doc a vs ns G Y ho hd hcd hmg hobj hints hlen hg0
  have inK := hY w _ Y
  obtain ⟨fd, hb, hF⟩ := F w mg fa _ inK G.T.g hmg
  exact enterG inK G.T.g G.T.b G.T.builtins G.T.nolimit hg0 hobj hints (Nat.le_trans hlen hn2) hr hF hb (fun H hO hS => hsp _ H a ns hlen hO hS)
end G1
/-! texts of the signs 0 and 1, as lists of bools -/
namespace G1
open PySem PySem.Spec PyProof.Rows L2

def cB (b : Bool) : Nat := if b then 49 else 48
def B (l : List Bool) : Str := SX.S (l.map cB)
theorem cB_inj {a b : Bool} (h : cB a = cB b) : a = b := by
  cases a <;> cases b <;> first | rfl | (exact absurd h (by decide))
theorem map_cB_inj : ∀ {l m : List Bool}, l.map cB = m.map cB → l = m
  | [], [], _ => rfl
  | [], _ :: _, h => by cases h
  | _ :: _, [], h => by cases h
  | a :: l, b :: m, h => by
    rw [List.map_cons, List.map_cons] at h
    injection h with h1 h2
    rw [cB_inj h1, map_cB_inj h2]
theorem B_inj {l m : List Bool} (h : B l = B m) : l = m := map_cB_inj (SX.S_inj h)
theorem B_dec (l m : List Bool) : decide (V.str (B l) = V.str (B m)) = decide (l = m) := by
  by_cases h : l = m
  · rw [h, decide_eq_true rfl, decide_eq_true rfl]
  · rw [decide_eq_false h, decide_eq_false fun e => h (B_inj (V.str.inj e))]
theorem B_len (l : List Bool) : (B l).length = l.length := by
  unfold B
  rw [SX.S_len, List.length_map]
theorem B_cps (l : List Bool) : (B l).cps.toList = l.map cB := rfl
theorem B_app (l m : List Bool) : B l ++ B m = B (l ++ m) := by
  unfold B
  rw [SX.S_cat, List.map_append]
theorem B_nil : ("" : Str) = B [] := by decide +kernel
theorem B_0 : ("0" : Str) = B [false] := by decide +kernel
theorem B_1 : ("1" : Str) = B [true] := by decide +kernel
theorem B_one (b : Bool) : (⟨#[cB b]⟩ : Str) = B [b] := by cases b <;> decide +kernel
theorem B_str0 : (Str.ofString (toString (0 : Int))) = B [false] := by decide +kernel
theorem B_str1 : (Str.ofString (toString (1 : Int))) = B [true] := by decide +kernel
theorem B_str (i : Int) (h0 : 0 ≤ i) (h2 : i < 2) : (Str.ofString (toString i)) = B [decide (i = 1)] := by
  have h : i = 0 ∨ i = 1 := by omega
  rcases h with rfl | rfl
  · exact B_str0
  · exact B_str1

/-! ### slices -/
theorem B_cut (l : List Bool) (lo hi : Option Int) : cutS (B l) lo hi = B ((l.drop (HT.sIx l.length 0 lo)).take (HT.sIx l.length l.length hi - HT.sIx l.length 0 lo)) := by
  unfold cutS B
  rw [SX.S_len, List.length_map, ← List.map_drop, ← List.map_take]
theorem sIx_of (n d : Nat) {i : Int} (h : 0 ≤ i) : HT.sIx n d (some i) = min i.toNat n := by
  show (if i < 0 then (i + (n : Int)).toNat else min i.toNat n) = _
  rw [if_neg (by omega)]
theorem B_to (l : List Bool) {j : Int} (h : 0 ≤ j) : cutS (B l) none (some j) = B (l.take j.toNat) := by
  rw [B_cut, sIx_of _ _ h]
  show B ((l.drop 0).take (min j.toNat l.length - 0)) = _
  rw [List.drop_zero, Nat.sub_zero, ← List.take_eq_take_min]
theorem B_from (l : List Bool) {i : Int} (h : 0 ≤ i) : cutS (B l) (some i) none = B (l.drop i.toNat) := by
  rw [B_cut, sIx_of _ _ h]
  show B ((l.drop (min i.toNat l.length)).take (l.length - min i.toNat l.length)) = _
  rw [List.take_of_length_le (by rw [List.length_drop]; omega)]
  by_cases hi : i.toNat ≤ l.length
  · rw [Nat.min_eq_left hi]
  · rw [Nat.min_eq_right (by omega), List.drop_length, List.drop_of_length_le (by omega)]
theorem B_mid (l : List Bool) {i j : Int} (h : 0 ≤ i) (hj : 0 ≤ j) : cutS (B l) (some i) (some j) = B ((l.take j.toNat).drop i.toNat) := by
  rw [B_cut, sIx_of _ _ h, sIx_of _ _ hj]
  congr 1
  apply List.ext_getElem?
  intro k
  rw [List.getElem?_take, List.getElem?_drop, List.getElem?_drop, List.getElem?_take]
  by_cases hi : i.toNat ≤ l.length
  · rw [Nat.min_eq_left hi]
    by_cases hj2 : j.toNat ≤ l.length
    · rw [Nat.min_eq_left hj2]
      by_cases h3 : k < j.toNat - i.toNat
      · rw [if_pos h3, if_pos (by omega)]
      · rw [if_neg h3, if_neg (by omega)]
    · rw [Nat.min_eq_right (by omega)]
      by_cases h3 : k < l.length - i.toNat
      · rw [if_pos h3, if_pos (by omega)]
      · rw [if_neg h3]
        split
        · exact (List.getElem?_eq_none (by omega)).symm
        · rfl
  · have hm : min i.toNat l.length = l.length := Nat.min_eq_right (Nat.le_of_lt (Nat.lt_of_not_le hi))
    rw [hm, List.getElem?_eq_none (by omega), List.getElem?_eq_none (by omega)]
    split <;> split <;> rfl

/-! ### signs -/
theorem B_at (l : List Bool) {i : Int} {k : Nat} {b : Bool} (hi : i = (k : Int)) (h : l[k]? = some b) : atI (B l).cps.toList i = some (cB b) := by
  subst hi
  refine atI_nat ?_
  rw [B_cps, List.getElem?_map, h]
  rfl
theorem B_atNeg (l : List Bool) {i : Int} {k : Nat} {b : Bool} (hi : i = -1 - (k : Int)) (hk : k < l.length) (h : l[l.length - 1 - k]? = some b) : atI (B l).cps.toList i = some (cB b) := by
  unfold atI ixN
  have e1 : (B l).cps.toList.length = l.length := by rw [B_cps, List.length_map]
  rw [e1, if_neg (by omega), if_pos (by omega)]
  show (B l).cps.toList[(i + (l.length : Int)).toNat]? = _
  rw [show (i + (l.length : Int)).toNat = l.length - 1 - k by omega, B_cps, List.getElem?_map, h]
  rfl

/-! ### many times -/
def rep (n : Nat) (l : List Bool) : List Bool := (List.replicate n l).flatten
theorem rep_zero (l : List Bool) : rep 0 l = [] := rfl
theorem rep_succ (n : Nat) (l : List Bool) : rep (n + 1) l = l ++ rep n l := by
  unfold rep
  rw [List.replicate_succ, List.flatten_cons]
theorem rep_length (n : Nat) (l : List Bool) : (rep n l).length = n * l.length := by
  induction n with
  | zero => rw [rep_zero, Nat.zero_mul]; rfl
  | succ n ih => rw [rep_succ, List.length_append, ih, Nat.succ_mul, Nat.add_comm]
theorem rep_get (n : Nat) (l : List Bool) (i : Nat) (h : i < n * l.length) : (rep n l)[i]? = l[i % l.length]? := by
  induction n generalizing i with
  | zero => rw [Nat.zero_mul] at h; omega
  | succ n ih =>
    rw [rep_succ]
    by_cases hi : i < l.length
    · rw [List.getElem?_append_left hi, Nat.mod_eq_of_lt hi]
    · have h1 : l.length ≤ i := by omega
      rw [List.getElem?_append_right h1, ih (i - l.length) (by rw [Nat.succ_mul] at h; omega), ← Nat.mod_eq_sub_mod h1]
theorem foldl_app (c : Array Nat) : ∀ (n : Nat) (acc : Array Nat), ((List.replicate n c).foldl (· ++ ·) acc).toList = acc.toList ++ (List.replicate n c.toList).flatten
  | 0, acc => by simp
  | n + 1, acc => by
    rw [List.replicate_succ, List.foldl_cons, foldl_app c n, List.replicate_succ, List.flatten_cons, Array.toList_append, List.append_assoc]
theorem map_rep (n : Nat) (l : List Bool) : (rep n l).map cB = (List.replicate n (l.map cB)).flatten := by
  induction n with
  | zero => rfl
  | succ n ih => rw [rep_succ, List.map_append, ih, List.replicate_succ, List.flatten_cons]
theorem B_mul (l : List Bool) {n : Int} (h : 0 ≤ n) : Txt.mul (B l) n = B (rep n.toNat l) := by
  unfold Txt.mul
  by_cases h1 : n < 1
  · rw [if_pos h1, show n.toNat = 0 by omega, rep_zero]
    rfl
  · rw [if_neg h1]
    by_cases h2 : (n == 1 || (B l).length == 0) = true
    · rw [if_pos h2]
      rw [Bool.or_eq_true, beq_iff_eq, beq_iff_eq, B_len] at h2
      rcases h2 with h2 | h2
      · subst h2
        show B l = B (rep 1 l)
        rw [rep_succ, rep_zero, List.append_nil]
      · rw [List.length_eq_zero_iff] at h2
        subst h2
        congr 1
        have := rep_length n.toNat []
        rw [List.length_nil, Nat.mul_zero, List.length_eq_zero_iff] at this
        exact this.symm
    · rw [if_neg h2]
      unfold B
      rw [map_rep]
      refine TL.ext_tl ?_
      show (List.foldl (· ++ ·) #[] (List.replicate n.toNat (SX.S (l.map cB)).cps)).toList = _
      rw [foldl_app]
      simp [TL.tl]

/-! ### joined -/
theorem join_nil (ls : List (List Bool)) : Txt.join (B []) (ls.map B) = B ls.flatten := by
  have e : ls.map B = (ls.map (List.map cB)).map SX.S := by rw [List.map_map]; rfl
  rw [e]
  show Txt.join (SX.S []) _ = _
  rw [SX.join_S]
  unfold B
  congr 1
  have key : ∀ ms : List (List Nat), TL.joinL [] ms = ms.flatten := by
    intro ms
    induction ms with
    | nil => rfl
    | cons m ms ih =>
      cases ms with
      | nil => simp [TL.joinL]
      | cons k ks =>
        rw [List.flatten_cons, ← ih]
        simp [TL.joinL]
  rw [key, ← List.map_flatten]
end G1
namespace G1
open PySem PySem.Spec PyProof.Rows L2
section
variable {X : Cx}
theorem tooLong_no {n : Nat} (h : n ≤ 1000000) : Builtin.Str.tooLong n = false := by
  unfold Builtin.Str.tooLong
  rw [decide_eq_false_iff_not]
  exact Nat.not_lt.mpr (Nat.le_trans h (by decide))
theorem op_mulS : OpR X (binaryOp .Mult) rMulS := by
  intro pins s σ H x y v u Q I rx ry h
  obtain ⟨z, n, rfl, rfl, h0, h1, h2, q⟩ := h
  obtain ⟨t, rfl⟩ := rx
  obtain ⟨t2, rfl⟩ := ry
  have hb : z.length = 0 ∨ n.toNat = 0 ∨ (z.length ≤ 1000000) := by
    rcases Nat.eq_zero_or_pos z.length with e | e
    · exact .inl e
    · rcases Nat.eq_zero_or_pos n.toNat with e2 | e2
      · exact .inr (.inl e2)
      · refine .inr (.inr (Nat.le_trans ?_ h2))
        exact Nat.le_mul_of_pos_right _ e2
  refine PySem.SB.mul ⟨?_, fun a b c => ?_, fun a b => tooLong_no h2⟩ fun t' k => ⟨.str (Txt.mul z n), H, I.tok _, ⟨_, rfl⟩, q⟩
  · rw [Bool.or_eq_false_iff]
    exact ⟨decide_eq_false (by omega), decide_eq_false (by omega)⟩
  · rw [Bool.or_eq_false_iff] at b
    have hz : z.length ≠ 0 := by
      have := b.2
      simpa using this
    have hz2 : (z.length : Int) ≤ 1000000 := by omega
    have h3 : (2 ^ 63 - 1 : Int) / n ≥ 1000000 := by
      apply Int.le_ediv_of_mul_le (by omega)
      omega
    omega
end
theorem szM {n : Nat} (h : n ≤ 1000000) : n ≤ sizeLine := Nat.le_trans h (by decide)
end G1
namespace G1
open PySem PySem.Spec PyProof.Rows L2
theorem B_last (l : List Bool) : cutS (B l) (some (-1)) none = B (l.drop (l.length - 1)) := by
  rw [B_cut]
  have e : HT.sIx l.length 0 (some (-1)) = l.length - 1 := by
    show (if (-1 : Int) < 0 then (-1 + (l.length : Int)).toNat else min (-1 : Int).toNat l.length) = _
    rw [if_pos (by decide)]
    omega
  rw [e]
  show B ((l.drop (l.length - 1)).take (l.length - (l.length - 1))) = _
  rw [List.take_of_length_le (by rw [List.length_drop]; omega)]
theorem B_init (l : List Bool) : cutS (B l) none (some (-1)) = B (l.take (l.length - 1)) := by
  rw [B_cut]
  have e : HT.sIx l.length l.length (some (-1)) = l.length - 1 := by
    show (if (-1 : Int) < 0 then (-1 + (l.length : Int)).toNat else min (-1 : Int).toNat l.length) = _
    rw [if_pos (by decide)]
    omega
  rw [e]
  show B ((l.drop 0).take (l.length - 1 - 0)) = _
  rw [List.drop_zero, Nat.sub_zero]
end G1
/-! calls by keywords alone; repr of a truth -/
namespace G1
open PySem PySem.Spec PyProof.Rows L2
section
variable {X : Cx} {CX : CXT} {k : Nat} {f : Addr} {fd : FuncData} {ps ks : List Str} {sp : Sp} {E : XK} {x : Str} {p pos : Pos} {kws : List Keyword} {tk : TA}
variable {g : List Value → List Value → List Value} {gV : List V → List V → List V}
/-- f(k = v, ..) -/
theorem pe_callK0 (F : FnOk X.prog X.w X.K X.mg X.base CX k f fd ps sp) (hr : Room k X.A) (hg : Gl X x) (hm : X.mg x = some (.ref f)) (hk : PySem.W.keepIn X.K (.ref f) = true) (hb : KBinds X.K fd ps ks g gV) (hx : Passes CX X E)
    (hkw : PK X kws tk) (hall : (backToKw pos (keywordEach kws X.env)).all (·.1.isSome) = true := by rfl) (hks : (backToKw pos (keywordEach kws X.env)).filterMap (·.1) = ks := by rfl)
    (hdb : (x == ("__debug__" : Str)) = false := by decide)
    (hpl : ((backTo pos (starEach [] X.env)).any (·.1) || (backToKw pos (keywordEach kws X.env)).any (·.1.isNone)) = false := by rfl) :
    PE X (.Call (.Name x p) [] kws pos) (fun σ H Q => tk σ H fun zs H1 => sp (gV [] zs) H1 Q E) := by
  refine ⟨fun pins s σ H Q I h => wpAny_Call_Name_kw (ld_glob I hg hm ?_ hdb)⟩
  refine PySem.W.callWith_KW0 (h₀ := X.base) I.ok.mod.kin hk hall (thn (hkw.run pos pins s σ H _ I h) ?_) hpl
  intro ws s2 hws
  obtain ⟨zs, H2, I2, rz, q2⟩ := hws
  refine ⟨I2.kIn, ?_⟩
  rw [hks]
  exact run_fnk (us := []) (vs := []) F hr hb hx I2 .nil rz q2
end
/-- two keywords, the second parameter's first -/
def swapW {α : Type} : List α → List α → List α
  | [], a :: b :: _ => [b, a]
  | _, _ => []
theorem kbinds_swap {K : PySem.W.Frag} {fd : FuncData} {p0 p1 : Str}
    (h : ∀ a b : Value, bindArgs fd ⟨[], [(p1, a), (p0, b)]⟩ = pure [(p0, b), (p1, a)]) : KBinds K fd [p0, p1] [p1, p0] swapW swapW := by
  refine ⟨fun s us ws _ hl => ?_, fun {vs us zs ws} r1 r2 => ?_⟩
  · cases us with
    | cons u us => cases hl
    | nil =>
      cases ws with
      | nil => cases hl
      | cons a ws =>
        cases ws with
        | nil => cases hl
        | cons b ws => exact .of_eq (h a b)
  · cases r1 with
    | cons q t => exact .nil
    | nil =>
      cases r2 with
      | nil => exact .nil
      | cons q1 t1 =>
        cases t1 with
        | nil => exact .nil
        | cons q2 t2 => exact .cons q2 (.cons q1 .nil)
section
variable {X : Cx}
theorem call_reprB : CallR X (.builtin "repr") (fun xs H Q => ∃ b : Bool, xs = [.bl b] ∧ Q (.str (if b then "True" else "False")) H) := by
  intro pins s σ H xs us Q I r h
  obtain ⟨b, rfl, q⟩ := h
  obtain ⟨u, rfl, ru⟩ := vals1 r
  obtain rfl : u = Value.bool b := ru
  exact PySem.P.repr_of_bool ⟨.str _, H, I.tok _, ⟨_, rfl⟩, q⟩
end
end G1
namespace G1
open PySem PySem.Spec PyProof.Rows L2
/-- one keyword -/
def oneW {α : Type} : List α → List α → List α
  | [], a :: _ => [a]
  | _, _ => []
theorem kbinds_one {K : PySem.W.Frag} {fd : FuncData} {p0 : Str} (h : ∀ a : Value, bindArgs fd ⟨[], [(p0, a)]⟩ = pure [(p0, a)]) : KBinds K fd [p0] [p0] oneW oneW := by
  refine ⟨fun s us ws _ hl => ?_, fun {vs us zs ws} r1 r2 => ?_⟩
  · cases us with
    | cons u us => cases hl
    | nil =>
      cases ws with
      | nil => cases hl
      | cons a ws => exact .of_eq (h a)
  · cases r1 with
    | cons q t => exact .nil
    | nil =>
      cases r2 with
      | nil => exact .nil
      | cons q1 t1 => exact .cons q1 .nil
/-- a value by a word: what follows is shown once -/
theorem pe_cut {X : Cx} {e : Expr} {t : TE} (h : PE X e t) : PE X e (fun σ H Q => ∃ M : V → Hp → Prop, t σ H M ∧ ∀ v H', M v H' → Q v H') := by
  refine ⟨fun pins s σ H Q I hq => ?_⟩
  obtain ⟨M, h1, h2⟩ := hq
  refine thn (h.run pins s σ H M I h1) ?_
  intro u s1 hu
  obtain ⟨v, H1, I1, r1, q1⟩ := hu
  exact ⟨v, H1, I1, r1, h2 v H1 q1⟩
end G1
namespace G1
open PySem PySem.Spec PyProof.Rows L2
theorem cB_small (b : Bool) : cB b < 16 ^ 8 := by cases b <;> decide
theorem leaf_B (l : List Bool) : PyData.leavesShort 8 (.str (B l)) = true := by
  simp only [PyData.leavesShort, List.all_eq_true, decide_eq_true_eq]
  intro c hc
  rw [B_cps] at hc
  obtain ⟨b, _, rfl⟩ := List.mem_map.mp hc
  exact cB_small b
theorem w_B (l : List Bool) : PyData.weight (.str (B l)) = l.length := by
  simp only [PyData.weight]
  exact B_len l
/-- repr of one object, read as data that is not great -/
theorem go_repr {K : PySem.W.Frag} {H : Hp} {R : PyData → Prop} {a : Addr} (d : PyData) (hd : Dp K H (.ref a) d) (h1 : d.showable = true) (h2 : d.hasDict = false) (h3 : d.depth ≤ 60) (h4 : d.leavesShort 8 = true) (h5 : d.weight ≤ 2 ^ 20) (q : R d) :
    ∃ (a' : Addr) (d' : PyData), [V.ref a] = [V.ref a'] ∧ Dp K H (.ref a') d' ∧ d'.showable = true ∧ d'.hasDict = false ∧ d'.depth ≤ 60 ∧ d'.shown.length ≤ sizeLine ∧ R d' :=
  ⟨a, d, rfl, hd, h1, h2, h3, PyData.shown_fits (Nat.le_refl _) (by decide) h4 h5, q⟩
theorem str_refl (z : Str) : decide (V.str z = V.str z) = true := decide_eq_true rfl
end G1
namespace G1
open PySem PySem.Spec PyProof.Rows L2
/-- the data of a table, of lists of texts and of truths -/
def dTab (h t : List Bool) : PyData := .tuple [.str (B h), .str (B t)]
theorem dp_tab {K : PySem.W.Frag} {H : Hp} {p : Addr} {h t : List Bool} (e : H p = some (.tup [.str (B h), .str (B t)])) : Dp K H (.ref p) (dTab h t) :=
  .tup (.inl (.inl e)) (.cons (.str _) (.cons (.str _) .nil))
def dStrs (ls : List (List Bool)) : PyData := .list (ls.map fun l => .str (B l))
def dBools (bs : List Bool) : PyData := .list (bs.map PyData.bool)
theorem dpAll_strs {K : PySem.W.Frag} {H : Hp} : ∀ ls : List (List Bool), DpAll K H (ls.map fun l => V.str (B l)) (ls.map fun l => .str (B l))
  | [] => .nil
  | l :: ls => .cons (.str _) (dpAll_strs ls)
theorem dpAll_bools {K : PySem.W.Frag} {H : Hp} : ∀ bs : List Bool, DpAll K H (bs.map V.bl) (bs.map PyData.bool)
  | [] => .nil
  | b :: bs => .cons (.bl _) (dpAll_bools bs)
/-- repr of a table -/
theorem repr_tab {K : PySem.W.Frag} {H : Hp} {R : PyData → Prop} {a : Addr} {h t : List Bool} (e : H a = some (.tup [.str (B h), .str (B t)])) (h1 : h.length ≤ 5000) (t1 : t.length ≤ 5000) (q : R (dTab h t)) :
    ∃ (a' : Addr) (d' : PyData), [V.ref a] = [V.ref a'] ∧ Dp K H (.ref a') d' ∧ d'.showable = true ∧ d'.hasDict = false ∧ d'.depth ≤ 60 ∧ d'.shown.length ≤ sizeLine ∧ R d' := by
  refine go_repr (dTab h t) (dp_tab e) ?_ ?_ ?_ ?_ ?_ q
  · simp [dTab, PyData.showable, PyData.showableAll]
  · simp [dTab, PyData.hasDict, PyData.hasDictAll]
  · simp [dTab, PyData.depth, PyData.depthAll]
  · simp only [dTab, PyData.leavesShort, PyData.leavesShortAll, Bool.and_eq_true]
    exact ⟨leaf_B h, leaf_B t, trivial⟩
  · simp only [dTab, PyData.weight, PyData.weightAll]
    have e1 := w_B h
    have e2 := w_B t
    simp only [PyData.weight] at e1 e2
    omega
/-- repr of three texts -/
theorem repr_s3 {K : PySem.W.Frag} {H : Hp} {R : PyData → Prop} {a : Addr} {x y z : List Bool} (e : H a = some (.lst [.str (B x), .str (B y), .str (B z)])) (h1 : x.length ≤ 100000) (h2 : y.length ≤ 100000) (h3 : z.length ≤ 100000) (q : R (dStrs [x, y, z])) :
    ∃ (a' : Addr) (d' : PyData), [V.ref a] = [V.ref a'] ∧ Dp K H (.ref a') d' ∧ d'.showable = true ∧ d'.hasDict = false ∧ d'.depth ≤ 60 ∧ d'.shown.length ≤ sizeLine ∧ R d' := by
  refine go_repr (dStrs [x, y, z]) (.lst (.inl (.inl e)) (dpAll_strs [x, y, z])) ?_ ?_ ?_ ?_ ?_ q
  · simp [dStrs, PyData.showable, PyData.showableAll]
  · simp [dStrs, PyData.hasDict, PyData.hasDictAll]
  · simp [dStrs, PyData.depth, PyData.depthAll]
  · simp only [dStrs, List.map_cons, List.map_nil, PyData.leavesShort, PyData.leavesShortAll, Bool.and_eq_true]
    exact ⟨leaf_B x, leaf_B y, leaf_B z, trivial⟩
  · simp only [dStrs, List.map_cons, List.map_nil, PyData.weight, PyData.weightAll]
    have e1 := w_B x
    have e2 := w_B y
    have e3 := w_B z
    simp only [PyData.weight] at e1 e2 e3
    omega
theorem bools_ok : ∀ bs : List Bool, PyData.showableAll (bs.map PyData.bool) = true ∧ PyData.hasDictAll (bs.map PyData.bool) = false ∧ PyData.depthAll (bs.map PyData.bool) = 0 ∧ PyData.leavesShortAll 8 (bs.map PyData.bool) = true ∧ PyData.weightAll (bs.map PyData.bool) ≤ 2 * bs.length
  | [] => by simp [PyData.showableAll, PyData.hasDictAll, PyData.depthAll, PyData.leavesShortAll, PyData.weightAll]
  | b :: bs => by
    obtain ⟨h1, h2, h3, h4, h5⟩ := bools_ok bs
    simp [PyData.showableAll, PyData.hasDictAll, PyData.depthAll, PyData.leavesShortAll, PyData.weightAll, PyData.showable, PyData.hasDict, PyData.depth, PyData.leavesShort, PyData.weight, h1, h2, h3, h4]
    omega
/-- repr of truths -/
theorem repr_bs {K : PySem.W.Frag} {H : Hp} {R : PyData → Prop} {a : Addr} (bs : List Bool) {xs : List V} (e : H a = some (.lst xs)) (ex : xs = bs.map V.bl) (hl : bs.length ≤ 1000) (q : R (dBools bs)) :
    ∃ (a' : Addr) (d' : PyData), [V.ref a] = [V.ref a'] ∧ Dp K H (.ref a') d' ∧ d'.showable = true ∧ d'.hasDict = false ∧ d'.depth ≤ 60 ∧ d'.shown.length ≤ sizeLine ∧ R d' := by
  subst ex
  obtain ⟨h1, h2, h3, h4, h5⟩ := bools_ok bs
  refine go_repr (dBools bs) (.lst (.inl (.inl e)) (dpAll_bools bs)) ?_ ?_ ?_ ?_ ?_ q
  · simp only [dBools, PyData.showable]; exact h1
  · simp only [dBools, PyData.hasDict]; exact h2
  · simp only [dBools, PyData.depth, h3]; omega
  · simp only [dBools, PyData.leavesShort]; exact h4
  · simp only [dBools, PyData.weight]; omega
end G1
namespace G1
open PySem PySem.Spec PyProof.Rows L2
def dMix (a b c : Bool) (x : List Bool) : PyData := .list [.bool a, .bool b, .bool c, .str (B x)]
theorem repr_mix {K : PySem.W.Frag} {H : Hp} {R : PyData → Prop} {p : Addr} {a b c : Bool} {x : List Bool} (e : H p = some (.lst [.bl a, .bl b, .bl c, .str (B x)])) (h1 : x.length ≤ 100000) (q : R (dMix a b c x)) :
    ∃ (a' : Addr) (d' : PyData), [V.ref p] = [V.ref a'] ∧ Dp K H (.ref a') d' ∧ d'.showable = true ∧ d'.hasDict = false ∧ d'.depth ≤ 60 ∧ d'.shown.length ≤ sizeLine ∧ R d' := by
  refine go_repr (dMix a b c x) (.lst (.inl (.inl e)) (.cons (.bl _) (.cons (.bl _) (.cons (.bl _) (.cons (.str _) .nil))))) ?_ ?_ ?_ ?_ ?_ q
  · simp [dMix, PyData.showable, PyData.showableAll]
  · simp [dMix, PyData.hasDict, PyData.hasDictAll]
  · simp [dMix, PyData.depth, PyData.depthAll]
  · simp only [dMix, PyData.leavesShort, PyData.leavesShortAll, Bool.and_eq_true]
    exact ⟨trivial, trivial, trivial, leaf_B x, trivial⟩
  · simp only [dMix, PyData.weight, PyData.weightAll]
    have e1 := w_B x
    simp only [PyData.weight] at e1
    omega
theorem L_01 : Str.ofString "01" = B [false, true] := by decide +kernel
theorem L_001 : Str.ofString "001" = B [false, false, true] := by decide +kernel
theorem L_1000 : Str.ofString "1000" = B [true, false, false, false] := by decide +kernel
end G1
namespace G1
open PySem PySem.Spec PyProof.Rows L2
/-- data that may stand in a list that is shown -/
structure Small (d : PyData) : Prop where
  sh : d.showable = true
  nd : d.hasDict = false
  dp : d.depth ≤ 20
  lv : d.leavesShort 8 = true
  wt : d.weight ≤ 20000
theorem small_bool (b : Bool) : Small (.bool b) := ⟨rfl, rfl, by simp [PyData.depth], rfl, by simp [PyData.weight]⟩
theorem small_none : Small .none := ⟨rfl, rfl, by simp [PyData.depth], rfl, by simp [PyData.weight]⟩
theorem small_B {l : List Bool} (h : l.length ≤ 20000) : Small (.str (B l)) := by
  refine ⟨rfl, rfl, by simp [PyData.depth], leaf_B l, ?_⟩
  rw [w_B]; exact h
theorem small_tab {h t : List Bool} (h1 : h.length ≤ 5000) (t1 : t.length ≤ 5000) : Small (dTab h t) := by
  refine ⟨?_, ?_, ?_, ?_, ?_⟩
  · simp [dTab, PyData.showable, PyData.showableAll]
  · simp [dTab, PyData.hasDict, PyData.hasDictAll]
  · simp [dTab, PyData.depth, PyData.depthAll]
  · simp only [dTab, PyData.leavesShort, PyData.leavesShortAll, Bool.and_eq_true]
    exact ⟨leaf_B h, leaf_B t, trivial⟩
  · simp only [dTab, PyData.weight, PyData.weightAll]
    have e1 := w_B h
    have e2 := w_B t
    simp only [PyData.weight] at e1 e2
    omega
theorem small_all : ∀ ds : List PyData, (∀ d ∈ ds, Small d) → PyData.showableAll ds = true ∧ PyData.hasDictAll ds = false ∧ PyData.depthAll ds ≤ 20 ∧ PyData.leavesShortAll 8 ds = true ∧ PyData.weightAll ds ≤ 20001 * ds.length
  | [], _ => by simp [PyData.showableAll, PyData.hasDictAll, PyData.depthAll, PyData.leavesShortAll, PyData.weightAll]
  | d :: ds, h => by
    obtain ⟨h1, h2, h3, h4, h5⟩ := small_all ds fun e he => h e (List.mem_cons_of_mem _ he)
    have s := h d List.mem_cons_self
    refine ⟨?_, ?_, ?_, ?_, ?_⟩
    · simp [PyData.showableAll, h1, s.sh]
    · simp [PyData.hasDictAll, h2, s.nd]
    · have := s.dp
      simp only [PyData.depthAll]
      omega
    · simp [PyData.leavesShortAll, h4, s.lv]
    · have := s.wt
      simp only [PyData.weightAll, List.length_cons]
      omega
/-- repr of a list of such -/
theorem repr_items {K : PySem.W.Frag} {H : Hp} {R : PyData → Prop} {a : Addr} {xs : List V} (ds : List PyData) (e : H a = some (.lst xs)) (hd : DpAll K H xs ds) (hs : ∀ d ∈ ds, Small d) (hl : ds.length ≤ 40) (q : R (.list ds)) :
    ∃ (a' : Addr) (d' : PyData), [V.ref a] = [V.ref a'] ∧ Dp K H (.ref a') d' ∧ d'.showable = true ∧ d'.hasDict = false ∧ d'.depth ≤ 60 ∧ d'.shown.length ≤ sizeLine ∧ R d' := by
  obtain ⟨h1, h2, h3, h4, h5⟩ := small_all ds hs
  refine go_repr (.list ds) (.lst (.inl (.inl e)) hd) ?_ ?_ ?_ ?_ ?_ q
  · simp only [PyData.showable]; exact h1
  · simp only [PyData.hasDict]; exact h2
  · simp only [PyData.depth]; omega
  · simp only [PyData.leavesShort]; exact h4
  · simp only [PyData.weight]
    have : 20001 * ds.length ≤ 20001 * 40 := Nat.mul_le_mul_left _ hl
    omega
theorem eqv_tab (a b c d : List Bool) : PyData.eqv (dTab a b) (dTab c d) = decide (a = c ∧ b = d) := by
  have e : ∀ x y : List Bool, (B x == B y) = decide (x = y) := fun x y => by
    by_cases h : x = y
    · subst h; simp
    · rw [decide_eq_false h]
      exact beq_eq_false_iff_ne.mpr fun z => h (B_inj z)
  have e2 : PyData.eqv (dTab a b) (dTab c d) = ((B a == B c) && ((B b == B d) && true)) := by simp only [dTab, PyData.eqv, PyData.eqvAll]
  rw [e2, e, e, Bool.and_true, Bool.decide_and]
theorem shaped_tab (h t : List Bool) : SeqAt.shaped (dTab h t) = true := by
  have l : ∀ x : List Bool, PyData.canLay0 (.str (B x)) = true := fun x => by
    simp only [PyData.canLay0, PyData.strOk]
    rw [Array.all_eq_true_iff_forall_mem]
    intro c hc
    have hc2 : c ∈ (B x).cps.toList := Array.mem_toList_iff.mpr hc
    rw [B_cps] at hc2
    obtain ⟨b, _, rfl⟩ := List.mem_map.mp hc2
    cases b <;> decide
  show (PyData.canLay0 (dTab h t) && decide (PyData.depth (dTab h t) ≤ 64)) = true
  rw [Bool.and_eq_true]
  refine ⟨?_, decide_eq_true ?_⟩
  · simp only [dTab, PyData.canLay0, PyData.canLayAll0, Bool.and_eq_true]
    exact ⟨l h, l t, trivial⟩
  · simp [dTab, PyData.depth, PyData.depthAll]
end G1
/-! what draws come from: a list of two lists and a count, changed by each draw; all else stands -/
namespace G1
open PySem PySem.Spec PyProof.Rows L2

/-- the well at w, its great cells at g -/
def WellAt (w g : Addr) (H : Hp) : Prop := ∃ (c : Addr) (gs cs : List Int) (k : Int), w ≠ g ∧ c ≠ g ∧ c ≠ w ∧ H w = some (.lst [.ref g, .ref c, .int k]) ∧
  H g = some (.lst (gs.map V.int)) ∧ H c = some (.lst (cs.map V.int)) ∧ 0 < cs.length ∧ gs.length ≤ 1000 ∧ cs.length ≤ 1000
/-- H' is as H but for the well -/
def Go (w g : Addr) (H H' : Hp) : Prop := ∀ a o, a ≠ w → a ≠ g → H a = some o → H' a = some o
theorem Go.refl {w g : Addr} {H : Hp} : Go w g H H := fun _ _ _ _ h => h
theorem Go.trans {w g : Addr} {H H1 H2 : Hp} (a : Go w g H H1) (b : Go w g H1 H2) : Go w g H H2 := fun x o h1 h2 h => b x o h1 h2 (a x o h1 h2 h)
theorem Go.of {w g : Addr} {H H' : Hp} (h : Same H H') : Go w g H H' := fun x o _ _ e => h x o e
/-- o stands at a, apart from the well -/
structure At (w g : Addr) (H : Hp) (a : Addr) (o : HO) : Prop where
  nw : a ≠ w
  ng : a ≠ g
  at_ : H a = some o
theorem At.go {w g : Addr} {H H' : Hp} {a : Addr} {o : HO} (x : At w g H a o) (s : Go w g H H') : At w g H' a o := ⟨x.nw, x.ng, s a o x.nw x.ng x.at_⟩
theorem same_new {H : Hp} {p : Addr} {o : HO} (h : H p = none) : Same H (upd H p o) := fun b x e => by
  rw [upd_ne (ne_of_none e h)]
  exact e
theorem Same.rfl' {H : Hp} : Same H H := fun _ _ h => h
theorem WellAt.same {w g : Addr} {H H' : Hp} (W : WellAt w g H) (s : Same H H') : WellAt w g H' := by
  obtain ⟨c, gs, cs, k, h1, h2, h3, h4, h5, h6, h7⟩ := W
  exact ⟨c, gs, cs, k, h1, h2, h3, s _ _ h4, s _ _ h5, s _ _ h6, h7⟩
theorem WellAt.fresh {w g p : Addr} {H : Hp} (W : WellAt w g H) (h : H p = none) : p ≠ w ∧ p ≠ g := by
  obtain ⟨c, gs, cs, k, h1, h2, h3, h4, h5, h6, h7⟩ := W
  exact ⟨(ne_of_none h4 h).symm, (ne_of_none h5 h).symm⟩
/-- a new object beside the well -/
theorem new_w {w g : Addr} {H : Hp} {o : HO} {Q : VK} (W : WellAt w g H)
    (h : ∀ p H', H p = none → Same H H' → WellAt w g H' → At w g H' p o → Q (.ref p) H') : ∀ p, H p = none → Q (.ref p) (upd H p o) := fun p hp =>
  h p _ hp (same_new hp) (W.same (same_new hp)) ⟨(W.fresh hp).1, (W.fresh hp).2, upd_same⟩
/-- a new object -/
theorem new_s {H : Hp} {o : HO} {Q : VK} (h : ∀ p H', H p = none → Same H H' → H' p = some o → Q (.ref p) H') : ∀ p, H p = none → Q (.ref p) (upd H p o) :=
  fun p hp => h p _ hp (same_new hp) upd_same
theorem new_of {w g p : Addr} {H H' : Hp} {o : HO} (W : WellAt w g H) (hp : H p = none) (e : upd H p o = H') : Same H H' ∧ WellAt w g H' ∧ At w g H' p o := by
  subst e
  exact ⟨same_new hp, W.same (same_new hp), (W.fresh hp).1, (W.fresh hp).2, upd_same⟩
theorem new_of0 {p : Addr} {H H' : Hp} {o : HO} (hp : H p = none) (e : upd H p o = H') : Same H H' ∧ H' p = some o := by
  subst e
  exact ⟨same_new hp, upd_same⟩
theorem same_mut {H H1 : Hp} {D : Addr} {o : HO} (s : Same H H1) (h : H D = none) : Same H (upd H1 D o) := fun b x e => by
  rw [upd_ne (ne_of_none e h)]
  exact s _ _ e
theorem szl {n : Nat} (h : n ≤ 1000) : n ≤ sizeLine := Nat.le_trans h (by decide)
theorem At.sqL {K : PySem.W.Frag} {w g : Addr} {H : Hp} {a : Addr} {xs : List V} (x : At w g H a (.lst xs)) : SqL K H a xs := .inl (.inl x.at_)
theorem At.sqT {K : PySem.W.Frag} {w g : Addr} {H : Hp} {a : Addr} {xs : List V} (x : At w g H a (.tup xs)) : SqT K H a xs := .inl (.inl x.at_)
theorem sqL_of {K : PySem.W.Frag} {H : Hp} {a : Addr} {xs : List V} (h : H a = some (.lst xs)) : SqL K H a xs := .inl (.inl h)
theorem sqT_of {K : PySem.W.Frag} {H : Hp} {a : Addr} {xs : List V} (h : H a = some (.tup xs)) : SqT K H a xs := .inl (.inl h)
/-- a tuple stands apart from the well -/
theorem WellAt.tup {w g a : Addr} {H : Hp} {xs : List V} (W : WellAt w g H) (h : H a = some (.tup xs)) : At w g H a (.tup xs) := by
  obtain ⟨c, gs, cs, k, h1, h2, h3, h4, h5, h6, h7⟩ := W
  exact ⟨ne_of h h4 (by intro z; cases z), ne_of h h5 (by intro z; cases z), h⟩
end G1
namespace G1
open PySem PySem.Spec PyProof.Rows L2
theorem ifT {A B : Prop} (h : A) : if true = true then A else B := by rw [if_pos rfl]; exact h
theorem ifF {A B : Prop} (h : B) : if false = true then A else B := by rw [if_neg Bool.false_ne_true]; exact h
theorem ifD {c : Prop} [Decidable c] {A B : Prop} (h1 : c → A) (h2 : ¬ c → B) : if decide c = true then A else B := by
  by_cases h : c
  · rw [decide_eq_true h]
    exact ifT (h1 h)
  · rw [decide_eq_false h]
    exact ifF (h2 h)
theorem ifDn {c : Prop} [Decidable c] {A B : Prop} (h1 : ¬ c → A) (h2 : c → B) : if (!decide c) = true then A else B := by
  by_cases h : c
  · rw [decide_eq_true h]
    exact ifF (h2 h)
  · rw [decide_eq_false h]
    exact ifT (h1 h)
theorem ifB {b : Bool} {A B : Prop} (h1 : b = true → A) (h2 : b = false → B) : if b = true then A else B := by
  cases b with
  | true => exact ifT (h1 rfl)
  | false => exact ifF (h2 rfl)
end G1
namespace G1
open PySem PySem.Spec PyProof.Rows L2
theorem dpAll_ints {K : PySem.W.Frag} {H : Hp} : ∀ ns : List Int, DpAll K H (ns.map V.int) (ns.map PyData.int)
  | [] => .nil
  | n :: ns => .cons (.int n) (dpAll_ints ns)
theorem lay_ints : ∀ ns : List Int, PyData.canLayAll0 (ns.map PyData.int) = true
  | [] => by simp [PyData.canLayAll0]
  | n :: ns => by simp [PyData.canLayAll0, PyData.canLay0, lay_ints ns]
theorem depth_ints : ∀ ns : List Int, PyData.depthAll (ns.map PyData.int) = 0
  | [] => by simp [PyData.depthAll]
  | n :: ns => by simp [PyData.depthAll, PyData.depth, depth_ints ns]
theorem shaped_ints (ns : List Int) : SeqAt.shaped (.list (ns.map PyData.int)) = true := by
  show (PyData.canLay0 (.list (ns.map PyData.int)) && decide (PyData.depth (.list (ns.map PyData.int)) ≤ 64)) = true
  rw [Bool.and_eq_true]
  refine ⟨by simp only [PyData.canLay0]; exact lay_ints ns, decide_eq_true ?_⟩
  simp only [PyData.depth, depth_ints]
  omega
theorem eqv_ints_nil (ns : List Int) : PyData.eqv (.list (ns.map PyData.int)) (.list []) = decide (ns = []) := by
  cases ns with
  | nil => simp [PyData.eqv, PyData.eqvAll]
  | cons n ns => simp [PyData.eqv, PyData.eqvAll]
end G1

namespace G1
open PySem PySem.Spec PyProof.Rows L2
theorem ix_zero {n : Nat} (h : 0 < n) : ixN n 0 = some 0 := by
  unfold ixN
  rw [if_pos (by omega), if_pos (by omega)]
  rfl
theorem ix_at {n j : Nat} {i : Int} (e : i = (j : Int)) (h : j < n) : ixN n i = some j := by
  subst e
  unfold ixN
  rw [if_pos (by omega), if_pos (by omega)]
  rfl
end G1

namespace G1
open PySem PySem.Spec PyProof.Rows L2
theorem seq_zero (n : Nat) : seqIndex? 0 (n + 1) = some 0 := by
  unfold seqIndex?
  simp
end G1

namespace G1
open PySem PySem.Spec PyProof.Rows L2
section
variable {K : PySem.W.Frag} {H : Hp} {Q : VK} {p : Addr} {xs : List V} {v : V}
theorem go_ixL {R : V → Prop} {j : Nat} (hs : H p = some (.lst xs)) (hj : xs[j]? = some v) (q : R v) :
    ∃ p' xs' i' v', V.ref p = V.ref p' ∧ V.int (j : Int) = V.int i' ∧ SqL K H p' xs' ∧ atI xs' i' = some v' ∧ R v' :=
  ⟨p, xs, _, v, rfl, rfl, sqL_of hs, atI_nat hj, q⟩
theorem go_ixLi {R : V → Prop} {i : Int} {j : Nat} (hs : H p = some (.lst xs)) (e : i = (j : Int)) (hj : xs[j]? = some v) (q : R v) :
    ∃ p' xs' i' v', V.ref p = V.ref p' ∧ V.int i = V.int i' ∧ SqL K H p' xs' ∧ atI xs' i' = some v' ∧ R v' := by
  subst e
  exact ⟨p, xs, _, v, rfl, rfl, sqL_of hs, atI_nat hj, q⟩
theorem go_ixT {R : V → Prop} {j : Nat} (hs : H p = some (.tup xs)) (hj : xs[j]? = some v) (q : R v) :
    ∃ p' xs' i' v', V.ref p = V.ref p' ∧ V.int (j : Int) = V.int i' ∧ SqT K H p' xs' ∧ atI xs' i' = some v' ∧ R v' :=
  ⟨p, xs, _, v, rfl, rfl, sqT_of hs, atI_nat hj, q⟩
theorem go_ixLast {R : V → Prop} (hs : H p = some (.lst xs)) (hj : xs[xs.length - 1]? = some v) (q : R v) :
    ∃ p' xs' i' v', V.ref p = V.ref p' ∧ V.int (-1) = V.int i' ∧ SqL K H p' xs' ∧ atI xs' i' = some v' ∧ R v' := by
  refine ⟨p, xs, _, v, rfl, rfl, sqL_of hs, ?_, q⟩
  have hl : 0 < xs.length := by
    cases xs with
    | nil => simp at hj
    | cons a l => simp
  unfold atI ixN
  rw [if_neg (by omega), if_pos (by omega)]
  show xs[(-1 + (xs.length : Int)).toNat]? = _
  rw [show (-1 + (xs.length : Int)).toNat = xs.length - 1 by omega]
  exact hj
theorem go_tup {R : List V → Prop} (hs : H p = some (.tup xs)) (q : R xs) : ∃ a ys, V.ref p = V.ref a ∧ SqT K H a ys ∧ R ys := ⟨p, xs, rfl, sqT_of hs, q⟩
theorem go_unl {R : List V → Prop} (hs : H p = some (.lst xs)) (q : R xs) : ∃ a ys, V.ref p = V.ref a ∧ SqL K H a ys ∧ R ys := ⟨p, xs, rfl, sqL_of hs, q⟩
theorem go_lenL {R : List V → Prop} (hs : H p = some (.lst xs)) (q : R xs) : ∃ p' ys, [V.ref p] = [V.ref p'] ∧ (SqL K H p' ys ∨ SqT K H p' ys) ∧ R ys :=
  ⟨p, xs, rfl, Or.inl (sqL_of hs), q⟩
end
end G1

namespace G1
open PySem PySem.Spec PyProof.Rows L2
section
variable {l m : List Bool}
/-- len of a text of two signs -/
theorem go_lenS {R : Str → Prop} (h : l.length ≤ 1000000) (q : R (B l)) : ∃ z, [V.str (B l)] = [V.str z] ∧ z.length ≤ sizeLine ∧ R z :=
  ⟨B l, rfl, by rw [B_len]; exact szM h, q⟩
theorem go_addS {R : Str → Str → Prop} (h : l.length + m.length ≤ 1000000) (q : R (B l) (B m)) : ∃ i j, V.str (B l) = V.str i ∧ V.str (B m) = V.str j ∧ i.length + j.length ≤ sizeLine ∧ R i j :=
  ⟨B l, B m, rfl, rfl, by rw [B_len, B_len]; exact szM h, q⟩
theorem go_mulS {R : Str → Int → Prop} {n : Int} (h : 0 ≤ n ∧ n < 2 ^ 30) (h2 : l.length * n.toNat ≤ 1000000) (q : R (B l) n) :
    ∃ z k, V.str (B l) = V.str z ∧ V.int n = V.int k ∧ 0 ≤ k ∧ k < 2 ^ 30 ∧ z.length * k.toNat ≤ 1000000 ∧ R z k :=
  ⟨B l, n, rfl, rfl, h.1, h.2, by rw [B_len]; exact h2, q⟩
theorem go_sl {R : Str → Prop} (h : l.length ≤ 1000000) (q : R (B l)) : ∃ z, V.str (B l) = V.str z ∧ z.length ≤ sizeLine ∧ R z :=
  ⟨B l, rfl, by rw [B_len]; exact szM h, q⟩
theorem go_ixS {R : Nat → Prop} {i : Int} {k : Nat} {b : Bool} (hi : i = (k : Int)) (h : l.length ≤ 1000000) (hk : l[k]? = some b) (q : R (cB b)) :
    ∃ z i' c, V.str (B l) = V.str z ∧ V.int i = V.int i' ∧ z.length ≤ sizeLine ∧ atI z.cps.toList i' = some c ∧ R c :=
  ⟨B l, i, _, rfl, rfl, by rw [B_len]; exact szM h, B_at l hi hk, q⟩
theorem go_ixSn {R : Nat → Prop} {i : Int} {k : Nat} {b : Bool} (hi : i = -1 - (k : Int)) (h : l.length ≤ 1000000) (hl : k < l.length) (hk : l[l.length - 1 - k]? = some b) (q : R (cB b)) :
    ∃ z i' c, V.str (B l) = V.str z ∧ V.int i = V.int i' ∧ z.length ≤ sizeLine ∧ atI z.cps.toList i' = some c ∧ R c :=
  ⟨B l, i, _, rfl, rfl, by rw [B_len]; exact szM h, B_atNeg l hi hl hk, q⟩
end
end G1
namespace G1
open PySem PySem.Spec PyProof.Rows L2
theorem log_small {i : Int} (h0 : 0 ≤ i) (h1 : i < 2 ^ 64) : i.natAbs.log2 < 1920 := by
  have h : i.natAbs < 2 ^ 64 := by omega
  by_cases hz : i.natAbs = 0
  · rw [hz]; decide
  · exact Nat.lt_of_lt_of_le ((Nat.log2_lt hz).mpr h) (by decide)
theorem go_bit {R : Int → Prop} {i : Int} (h : 0 ≤ i ∧ i < 2) (q : R i) : ∃ k, [V.int i] = [V.int k] ∧ k.natAbs.log2 < 1920 ∧ R k :=
  ⟨i, rfl, log_small h.1 (by omega), q⟩
theorem flat_one : ∀ bs : List Bool, (bs.map fun b => [b]).flatten = bs
  | [] => rfl
  | b :: bs => by rw [List.map_cons, List.flatten_cons, flat_one bs]; rfl
theorem len_one : ∀ bs : List Bool, ((bs.map fun b => B [b]).map (·.length)).sum = bs.length
  | [] => rfl
  | b :: bs => by
    rw [List.map_cons, List.map_cons, List.sum_cons, len_one bs, B_len, List.length_cons, List.length_cons, List.length_nil]
    omega
theorem go_join {K : PySem.W.Frag} {H : Hp} {R : Str → List Str → Prop} {D : Addr} {bs : List Bool} (hD : H D = some (.lst (bs.map fun b => V.str (B [b])))) (hl : bs.length ≤ 1000000) (q : R (B []) (bs.map fun b => B [b])) :
    ∃ a p ys, V.str (B []) = V.str a ∧ [V.ref D] = [V.ref p] ∧ (SqL K H p (List.map V.str ys) ∨ SqT K H p (List.map V.str ys)) ∧ (List.map (fun x => x.length) ys).sum + ys.length * a.length ≤ 16777216 ∧ R a ys := by
  refine ⟨B [], D, bs.map fun b => B [b], rfl, rfl, Or.inl ?_, ?_, q⟩
  · rw [List.map_map]
    exact sqL_of hD
  · rw [len_one, B_len]
    simp
    omega
theorem joined (bs : List Bool) : Txt.join (B []) (bs.map fun b => B [b]) = B bs := by
  have e : (bs.map fun b => B [b]) = (bs.map fun b => [b]).map B := by rw [List.map_map]; rfl
  rw [e, join_nil, flat_one]
end G1
namespace G1
open PySem PySem.Spec PyProof.Rows L2
theorem go_in {K : PySem.W.Frag} {H : Hp} {R : Bool → Prop} {p : Addr} {x : Int} {ys : List Int} {xs : List V} (hs : H p = some (.tup xs)) (e : xs = ys.map V.int) (q : ∀ b, R b) :
    ∃ p' zs, V.ref p = V.ref p' ∧ (SqL K H p' zs ∨ SqT K H p' zs) ∧ flatV (.int x) = true ∧ zs.all flatV = true ∧ R (inV (.int x) zs) := by
  refine ⟨p, xs, rfl, Or.inr (sqT_of hs), rfl, ?_, q _⟩
  subst e
  rw [List.all_eq_true]
  intro v hv
  obtain ⟨i, _, rfl⟩ := List.mem_map.mp hv
  rfl
theorem mul_le {a b n m : Nat} (h1 : a ≤ n) (h2 : b ≤ m) (h : n * m ≤ 1000000) : a * b ≤ 1000000 := Nat.le_trans (Nat.mul_le_mul h1 h2) h
end G1
/-! for i, c in enumerate(text) -/
namespace G1
open PySem PySem.Spec PyProof.Rows L2
/-- the signs of x, each in a new pair with its place -/
def Ites (x : Str) : It :=
  ⟨fun i _ => i < x.cps.size, fun i H v H' => ∃ T c, v = .ref T ∧ H T = none ∧ x.cps[i]? = some c ∧ H' = upd H T (.tup [.int (i : Nat), .str ⟨#[c]⟩]), fun i _ => i = x.cps.size⟩
theorem turn_enumS {P : Program} {w : World} {K : PySem.W.Frag} {elts : List Expr} {kk : Nat} {tpos : Pos} (x : Str) (t : Tok) (e it : Addr) (hne : e ≠ it) :
    Turn P w K (.Tuple elts kk tpos) (Ites x) [e, it] e (fun i h => (∃ old, IsEnum h e it (0 + (i : Int)) old) ∧ h.IsStrIter it (strIterType x) x t i) where
  mem := by simp
  obj := fun i h st b hb => by
    obtain ⟨⟨old, he⟩, ⟨o, ho, hc, hd⟩⟩ := st
    rcases (by simpa using hb : b = e ∨ b = it) with rfl | rfl
    · exact ⟨_, he, fun v z => nomatch z⟩
    · refine ⟨o, ho, fun v z => ?_⟩
      rw [hd] at z
      cases z
  keep := fun i h h' st k => by
    obtain ⟨⟨old, he⟩, o, ho, r⟩ := st
    exact ⟨⟨old, k e (by simp) _ he⟩, o, k it (by simp) o ho, r⟩
  item := by
    intro X hX hW hKK calm i pins s σ H E I away st hg
    subst hX hW hKK
    have D := Draws.text (prog := X.prog) (w := X.w) (A := X.A.in1) (I.ok.hd calm) it x t
    have W := GoesN.enumFrom (elts := elts) (x1 := kk) (pos := tpos) 0 D e hne (by simpa using hne) (by simp)
    refine W.goes i s _ E hg st fun v h' tk hY st' hk htk => ?_
    obtain ⟨T, t', y, ev, hT, ⟨c, u, hcx, ey⟩, hO⟩ := hY
    subst ev ey
    obtain ⟨o, ho, hoc, n, hod⟩ := hO
    have new : ObjOk X.prog X.w (upd H T (.tup [.int (i : Nat), .str ⟨#[c]⟩])) h' T (.tup [.int (i : Nat), .str ⟨#[c]⟩]) :=
      ⟨by show 2 ≤ sizeLine; decide, [.int (0 + (i : Int)) t', .str ⟨#[c]⟩ u], .cons ⟨t', by rw [Int.zero_add]⟩ (.cons ⟨u, rfl⟩ .nil), ⟨o, ho, hoc, n, hod⟩⟩
    have I1 : Inv X pins σ (upd H T (.tup [.int (i : Nat), .str ⟨#[c]⟩])) { s with heap := h', toks := tk } :=
      I.turnedNew (ch := [e, it]) hk away hT new
    refine ⟨.ref T, _, I1, rfl, ⟨T, c, rfl, I.hok.fresh hT, hcx, rfl⟩, st', fun b hb => ?_⟩
    have hb' : b < s.heap.objs.size := by
      obtain ⟨⟨old, he⟩, o2, ho2, _⟩ := st
      rcases (by simpa using hb : b = e ∨ b = it) with rfl | rfl
      · exact Heap.lt_size he
      · exact Heap.lt_size ho2
    rw [upd_ne (Nat.ne_of_lt (Nat.lt_of_lt_of_le hb' hT))]
    exact (away b hb).1
  done := by
    intro X hX hW hKK calm i pins s σ H E I away st hg
    subst hX hW hKK
    replace hg : i = x.cps.size := hg
    subst hg
    have D := Draws.text (prog := X.prog) (w := X.w) (A := X.A.in1) (I.ok.hd calm) it x t
    have W := GoesN.enumFrom (elts := elts) (x1 := kk) (pos := tpos) 0 D e hne (by simpa using hne) (by simp)
    refine W.stops s _ E st fun h' tk hk htk => ?_
    exact I.turnedL (t' := tk) (ch := [e, it]) hk away
  self := fun A i s Q E st q => wpAny_pyIter_enum st.1.choose_spec q
def iEnumS (ta : TA) : TI := fun σ H R => ta σ H fun vs H1 => ∃ x, vs = [.str x] ∧ R (Ites x) H1
theorem pi_enumS {X : Cx} {e : Expr} {ta : TA} {p pos tpos : Pos} {elts : List Expr} {kk : Nat} (hg : Gl X "enumerate") (hm : X.mg "enumerate" = none) (ha : PA X [e] ta) (hs : starEach [e] X.env = [(false, eval e X.env)] := by rfl) :
    PI X (.Tuple elts kk tpos) (.Call (.Name "enumerate" p) [e] [] pos) (iEnumS ta) := by
  refine ⟨fun pn s σ H R Iv told => Call_ (ld_blt Iv hg hm boot_enumerate (PyProof.Rows.callWith_type1 (thn (ha.run pos pn s σ H _ Iv told) ?_) hs rfl))⟩
  rintro us s1 ⟨vs, H1, I1, r1, x, rfl, q⟩
  cases r1 with
  | cons r rr =>
    cases rr
    obtain ⟨t, rfl⟩ := r
    refine call_enumerate_str fun h' he hit hsz hk => wpAny_pyIter_enum he ?_
    refine ⟨s1.heap.objs.size + 1, [s1.heap.objs.size + 1, s1.heap.objs.size], _, _, H1, rfl, I1.kept (t' := s1.toks) hk, turn_enumS x t (s1.heap.objs.size + 1) s1.heap.objs.size (Nat.succ_ne_self _), ⟨⟨.none, he⟩, hit⟩, fun b hb => ?_, q⟩
    have up : s1.heap.objs.size ≤ b := by
      rcases (by simpa using hb : b = s1.heap.objs.size + 1 ∨ b = s1.heap.objs.size) with rfl | rfl
      · exact Nat.le_succ _
      · exact Nat.le_refl _
    exact I1.fpOk up (I1.hok.fresh up)
theorem lc_enumS {x : Str} {g : TG} {tt : TT} {te : TE} {vs : List Nat} {σ : L2.St} {H1 : Hp} {D : Addr} {Qd : Hp → Prop} (Pv : Nat → Hp → Prop) (h0 : Pv 0 (upd H1 D (.lst [])))
    (hs : ∀ i c T H, x.cps[i]? = some c → Pv i H → H T = none → g (.ref T) (wipe σ vs) (upd H T (.tup [.int (i : Nat), .str ⟨#[c]⟩])) fun σ2 H2 => wipe σ2 vs = wipe σ vs ∧ tt σ2 H2 fun b H3 =>
      if b = true then te σ2 H3 fun y H4 => ∃ acc, H4 D = some (.lst acc) ∧ acc.length < sizeLine ∧ Pv (i + 1) (upd H4 D (.lst (acc ++ [y]))) else Pv (i + 1) H3) (hd : ∀ H, Pv x.cps.size H → Qd H) :
    ∃ W : Nat → Nat → Hp → Prop, (∃ m, W 0 m (upd H1 D (.lst []))) ∧ ∀ i m H, W i m H →
      ((Ites x).stop i H ∧ Qd H) ∨ ((Ites x).go i H ∧ ∃ Nx : Hp → Prop, (∀ H', Nx H' → ∃ m', m' < m ∧ W (i + 1) m' H') ∧ ∀ v H', (Ites x).yld i H v H' → g v (wipe σ vs) H' fun σ2 H2 => wipe σ2 vs = wipe σ vs ∧ tt σ2 H2 fun b H3 =>
        if b = true then te σ2 H3 fun y H4 => ∃ acc, H4 D = some (.lst acc) ∧ acc.length < sizeLine ∧ Nx (upd H4 D (.lst (acc ++ [y]))) else Nx H3) := by
  refine ⟨fun i m H => m = x.cps.size - i ∧ i ≤ x.cps.size ∧ Pv i H, ⟨x.cps.size, by simp, Nat.zero_le _, h0⟩, ?_⟩
  rintro i m H ⟨rfl, hi, p⟩
  by_cases hlt : i < x.cps.size
  · refine .inr ⟨hlt, Pv (i + 1), fun H' p' => ⟨x.cps.size - (i + 1), by omega, rfl, hlt, p'⟩, fun v H' y => ?_⟩
    obtain ⟨T, c, rfl, hT, hc, rfl⟩ := y
    exact hs i c T H hc p hT
  · have e : i = x.cps.size := by omega
    subst e
    exact .inl ⟨rfl, hd H p⟩
theorem for_enumS {x : Str} {g : TG} {tb : TS} {D : Ends} {σ : L2.St} {H : Hp} (Pv : Nat → L2.St → Hp → Prop) (h0 : Pv 0 σ H)
    (hs : ∀ i c T σ H, x.cps[i]? = some c → Pv i σ H → H T = none → g (.ref T) σ (upd H T (.tup [.int (i : Nat), .str ⟨#[c]⟩])) fun σ2 H2 => tb { D with nx := Pv (i + 1), ct := Pv (i + 1), bk := D.nx } σ2 H2) (hd : ∀ σ H, Pv x.cps.size σ H → D.nx σ H) :
    ∃ W : Nat → Nat → L2.St → Hp → Prop, (∃ m, W 0 m σ H) ∧ ∀ i m σ H, W i m σ H →
      ((Ites x).stop i H ∧ D.nx σ H) ∨ ((Ites x).go i H ∧ ∃ N : L2.St → Hp → Prop, (∀ σ' H', N σ' H' → ∃ m', m' < m ∧ W (i + 1) m' σ' H') ∧ ∀ v H', (Ites x).yld i H v H' → g v σ H' fun σ2 H2 => tb { D with nx := N, ct := N, bk := D.nx } σ2 H2) := by
  refine ⟨fun i m σ H => m = x.cps.size - i ∧ i ≤ x.cps.size ∧ Pv i σ H, ⟨x.cps.size, by simp, Nat.zero_le _, h0⟩, ?_⟩
  rintro i m σ H ⟨rfl, hi, p⟩
  by_cases hlt : i < x.cps.size
  · refine .inr ⟨hlt, Pv (i + 1), fun σ' H' p' => ⟨x.cps.size - (i + 1), by omega, rfl, hlt, p'⟩, fun v H' y => ?_⟩
    obtain ⟨T, c, rfl, hT, hc, rfl⟩ := y
    exact hs i c T σ H hc p hT
  · have e : i = x.cps.size := by omega
    subst e
    exact .inl ⟨rfl, hd σ H p⟩
end G1
/-! for i, x in enumerate(tuple) -/
namespace G1
open PySem PySem.Spec PyProof.Rows L2
def enumObj (n : Addr) : Obj := { cls := .type "enumerate", data := .fields #[.none, .bool false, .ref n, rawInt 0, .none, .none] }
/-- enumerate(v) of what has an iterator -/
theorem meets_en {v : Value} {o : Obj} {Hh : Heap → Prop} (B : Begins v o Hh) : Meets (Builtin.«enumerate.__new__» ⟨[.type "enumerate", v], []⟩) (fun _ R s => Hh s.heap ∧
    R (.ok (.ret (.ref (s.heap.push o).objs.size))) { s with heap := (s.heap.push o).push (enumObj s.heap.objs.size) }) := by
  refine .of_wp fun pr ww AA RR s hyp => ?_
  obtain ⟨hp, gg, dd, tt, ss⟩ := s
  obtain ⟨h1, hyp⟩ := hyp
  have hsub := sub_enumerate
  have it : ∀ {A' : Around} {E' : Value → Shared → Prop} {Q' : Value → Shared → Prop}, Q' (.ref hp.objs.size) ⟨hp.push o, gg, dd, tt, ss⟩ → wpAny (model pr ww) A' (pyIter v) Q' E' ⟨hp, gg, dd, tt, ss⟩ := fun z => B.iter pr ww _ _ ⟨hp, gg, dd, tt, ss⟩ _ h1 z
  wp_walk using it
  refine wpAny_stack_any fun _ => wpAny_pure ?_
  split
  · rename_i cc _ _ _ _ _
    cases (cc == Value.type "enumerate") <;> (wp_walk using it; exact ⟨_, rfl, hyp⟩)
  · (wp_walk using it; exact ⟨_, rfl, hyp⟩)
theorem call_en {P : Program} {w : World} {A : Around} {E : Value → Shared → Prop} {s : Shared} {v : Value} {o : Obj} {Hh : Heap → Prop} {Q : Value → Shared → Prop} (B : Begins v o Hh) (h1 : Hh s.heap)
    (h : ∀ h', IsEnum h' (s.heap.objs.size + 1) s.heap.objs.size 0 .none → h'.get? s.heap.objs.size = some o → (∀ b x, s.heap.get? b = some x → h'.get? b = some x) → Q (.ref (s.heap.objs.size + 1)) { s with heap := h' }) :
    wpAny (model P w) A (call (.type "enumerate") [v]) Q E s := by
  refine callType_new F.called_enumerate (by decide) (F.typeCall_enumerate_1 _) (F.newCall_enumerate_1 _) (fun z => F.args_object_init_2 z _) F.entry_enumerate_new (meets_en B) ⟨h1, ?_⟩
  have z1 : (s.heap.push o).objs.size = s.heap.objs.size + 1 := Heap.size_push ..
  have e1 := Heap.get?_push_size (s.heap.push o) (o := enumObj s.heap.objs.size) rfl
  show _ ∧ _
  rw [z1]
  rw [z1] at e1
  exact ⟨⟨_, e1, rfl⟩, h _ e1 (Heap.get?_push_of_some _ (Heap.get?_push_size _ B.free)) fun b x z => Heap.get?_push_of_some _ (Heap.get?_push_of_some _ z)⟩
/-- the items of the tuple at a, each in a new pair with its place -/
def Iten (K : PySem.W.Frag) (a : Addr) : It :=
  ⟨fun i H => ∃ (xs : List V) (x : V), SqT K H a xs ∧ xs[i]? = some x, fun i H v H' => ∃ T x, v = .ref T ∧ H T = none ∧ H' = upd H T (.tup [.int (i : Nat), x]) ∧ ∀ xs, SqT K H a xs → xs[i]? = some x, fun i H => ∃ xs : List V, SqT K H a xs ∧ xs.length = i⟩
theorem turn_en {P : Program} {w : World} {K : PySem.W.Frag} {elts : List Expr} {kk : Nat} {tpos : Pos} (a e it : Addr) :
    Turn P w K (.Tuple elts kk tpos) (Iten K a) [e, it] e (fun i h => (∃ old, IsEnum h e it (0 + (i : Int)) old) ∧ h.IsTupleIter it a i ∧ e ≠ it ∧ e ≠ a ∧ a ≠ it) where
  mem := by simp
  obj := fun i h st b hb => by
    obtain ⟨⟨old, he⟩, ⟨o, ho, hc, hd⟩, _⟩ := st
    rcases (by simpa using hb : b = e ∨ b = it) with rfl | rfl
    · exact ⟨_, he, fun v z => nomatch z⟩
    · refine ⟨o, ho, fun v z => ?_⟩
      rw [hd] at z
      cases z
  keep := fun i h h' st k => by
    obtain ⟨⟨old, he⟩, hi, r⟩ := st
    exact ⟨⟨old, k e (by simp) _ he⟩, hi.at fun o q => k it (by simp) o q, r⟩
  item := by
    intro X hX hW hKK calm i pins s σ H E I away st hg
    subst hX hW hKK
    obtain ⟨he, hit, n1, n2, n3⟩ := st
    obtain ⟨xs, x, hq, hx⟩ := hg
    obtain ⟨its, rv, p, _⟩ := I.tuple hq
    obtain ⟨u, hu, ru⟩ := rv.get hx
    have D := Draws.tuple (prog := X.prog) (w := X.w) (A := X.A.in1) (I.ok.hd calm) it a n3 its.toArray
    have W := GoesN.enumFrom (elts := elts) (x1 := kk) (pos := tpos) 0 D e n1 (by simp [n1, n2]) (by simp)
    have il : i < its.toArray.size := by
      have := (List.getElem?_eq_some_iff.mp hu).1
      simpa using this
    refine W.goes i s _ E il ⟨he, hit, p⟩ fun v h' tk hY st' hk htk => ?_
    obtain ⟨T, t', y, ev, hT, hy, hO⟩ := hY
    have ey : y = u := by
      rw [List.getElem?_toArray, hu] at hy
      exact (Option.some.inj hy).symm
    subst ev ey
    obtain ⟨o, ho, hoc, n, hod⟩ := hO
    have new : ObjOk X.prog X.w (upd H T (.tup [.int (i : Nat), x])) h' T (.tup [.int (i : Nat), x]) :=
      ⟨by show 2 ≤ sizeLine; decide, [.int (0 + (i : Int)) t', y], .cons ⟨t', by rw [Int.zero_add]⟩ (.cons ru .nil), ⟨o, ho, hoc, n, hod⟩⟩
    have I1 : Inv X pins σ (upd H T (.tup [.int (i : Nat), x])) { s with heap := h', toks := tk } := I.turnedNew (ch := [e, it]) hk away hT new
    refine ⟨.ref T, _, I1, rfl, ⟨T, x, rfl, I.hok.fresh hT, rfl, fun ys hy => by rw [I.tuple_inj hy hq]; exact hx⟩, ⟨st'.1, st'.2.1, n1, n2, n3⟩, fun b hb => ?_⟩
    have hb' : b < s.heap.objs.size := by
      obtain ⟨old, he⟩ := he
      obtain ⟨o2, ho2, _⟩ := hit
      rcases (by simpa using hb : b = e ∨ b = it) with rfl | rfl
      · exact Heap.lt_size he
      · exact Heap.lt_size ho2
    rw [upd_ne (Nat.ne_of_lt (Nat.lt_of_lt_of_le hb' hT))]
    exact (away b hb).1
  done := by
    intro X hX hW hKK calm i pins s σ H E I away st hg
    subst hX hW hKK
    obtain ⟨he, hit, n1, n2, n3⟩ := st
    obtain ⟨xs, hq, hl⟩ := hg
    obtain ⟨its, rv, p, _⟩ := I.tuple hq
    have l2 := rv.length
    have D := Draws.tuple (prog := X.prog) (w := X.w) (A := X.A.in1) (I.ok.hd calm) it a n3 its.toArray
    have W := GoesN.enumFrom (elts := elts) (x1 := kk) (pos := tpos) 0 D e n1 (by simp [n1, n2]) (by simp)
    have ei : i = its.toArray.size := by
      rw [List.size_toArray]
      omega
    rw [ei] at he hit
    refine W.stops s _ E ⟨he, hit, p⟩ fun h' tk hk htk => ?_
    exact I.turnedL (t' := tk) (ch := [e, it]) hk away
  self := fun A i s Q E st q => wpAny_pyIter_enum st.1.choose_spec q
def iEnumT (K : PySem.W.Frag) (ta : TA) : TI := fun σ H R => ta σ H fun vs H1 => ∃ a xs, vs = [.ref a] ∧ SqT K H1 a xs ∧ R (Iten K a) H1
theorem pi_enumT {X : Cx} {e : Expr} {ta : TA} {p pos tpos : Pos} {elts : List Expr} {kk : Nat} (hg : Gl X "enumerate") (hm : X.mg "enumerate" = none) (ha : PA X [e] ta) (hs : starEach [e] X.env = [(false, eval e X.env)] := by rfl) :
    PI X (.Tuple elts kk tpos) (.Call (.Name "enumerate" p) [e] [] pos) (iEnumT X.K ta) := by
  refine ⟨fun pn s σ H R Iv told => Call_ (ld_blt Iv hg hm boot_enumerate (PyProof.Rows.callWith_type1 (thn (ha.run pos pn s σ H _ Iv told) ?_) hs rfl))⟩
  rintro us s1 ⟨vs, H1, I1, r1, a, xs, rfl, hq, q⟩
  cases r1 with
  | cons r rr =>
    cases rr
    cases r
    obtain ⟨its, rv, p', _⟩ := I1.tuple hq
    have la : a < s1.heap.objs.size := by
      obtain ⟨o, ho, _⟩ := p'
      exact Heap.lt_size ho
    refine call_en (begins_tuple a its.toArray) p' fun h' he hit hk => wpAny_pyIter_enum he ?_
    refine ⟨s1.heap.objs.size + 1, [s1.heap.objs.size + 1, s1.heap.objs.size], _, _, H1, rfl, I1.kept (t' := s1.toks) hk, turn_en a (s1.heap.objs.size + 1) s1.heap.objs.size, ⟨⟨.none, he⟩, ⟨_, hit, rfl, rfl⟩, Nat.succ_ne_self _, ?_, ?_⟩, fun b hb => ?_, q⟩
    · exact fun z => absurd la (by rw [← z]; exact Nat.not_lt.mpr (Nat.le_succ _))
    · exact Nat.ne_of_lt la
    · have up : s1.heap.objs.size ≤ b := by
        rcases (by simpa using hb : b = s1.heap.objs.size + 1 ∨ b = s1.heap.objs.size) with rfl | rfl
        · exact Nat.le_succ _
        · exact Nat.le_refl _
      exact I1.fpOk up (I1.hok.fresh up)
theorem lc_enumT {K : PySem.W.Frag} {a : Addr} {xs : List V} {g : TG} {tt : TT} {te : TE} {vs : List Nat} {σ : L2.St} {H1 : Hp} {D : Addr} {Qd : Hp → Prop} (Pv : Nat → Hp → Prop) (h0 : Pv 0 (upd H1 D (.lst [])))
    (hq : ∀ i H, Pv i H → SqT K H a xs)
    (hs : ∀ i x T H, xs[i]? = some x → Pv i H → H T = none → g (.ref T) (wipe σ vs) (upd H T (.tup [.int (i : Nat), x])) fun σ2 H2 => wipe σ2 vs = wipe σ vs ∧ tt σ2 H2 fun b H3 =>
      if b = true then te σ2 H3 fun y H4 => ∃ acc, H4 D = some (.lst acc) ∧ acc.length < sizeLine ∧ Pv (i + 1) (upd H4 D (.lst (acc ++ [y]))) else Pv (i + 1) H3) (hd : ∀ H, Pv xs.length H → Qd H) :
    ∃ W : Nat → Nat → Hp → Prop, (∃ m, W 0 m (upd H1 D (.lst []))) ∧ ∀ i m H, W i m H →
      ((Iten K a).stop i H ∧ Qd H) ∨ ((Iten K a).go i H ∧ ∃ Nx : Hp → Prop, (∀ H', Nx H' → ∃ m', m' < m ∧ W (i + 1) m' H') ∧ ∀ v H', (Iten K a).yld i H v H' → g v (wipe σ vs) H' fun σ2 H2 => wipe σ2 vs = wipe σ vs ∧ tt σ2 H2 fun b H3 =>
        if b = true then te σ2 H3 fun y H4 => ∃ acc, H4 D = some (.lst acc) ∧ acc.length < sizeLine ∧ Nx (upd H4 D (.lst (acc ++ [y]))) else Nx H3) := by
  refine ⟨fun i m H => m = xs.length - i ∧ i ≤ xs.length ∧ Pv i H, ⟨xs.length, by simp, Nat.zero_le _, h0⟩, ?_⟩
  rintro i m H ⟨rfl, hi, p⟩
  have sq := hq i H p
  by_cases hlt : i < xs.length
  · refine .inr ⟨⟨xs, xs[i], sq, List.getElem?_eq_getElem hlt⟩, Pv (i + 1), fun H' p' => ⟨xs.length - (i + 1), by omega, rfl, hlt, p'⟩, fun v H' y => ?_⟩
    obtain ⟨T, x, rfl, hT, rfl, hx⟩ := y
    exact hs i x T H (hx xs sq) p hT
  · have e : i = xs.length := by omega
    subst e
    exact .inl ⟨⟨xs, sq, rfl⟩, hd H p⟩
end G1
/-! repr of None and of numbers -/
namespace G1
open PySem PySem.Spec PyProof.Rows L2
def shO0 : V → Str
  | .int i => Str.ofString (toString i)
  | _ => "None"
/-- the text of None or of a number -/
@[irreducible] def shO (v : V) : Str := shO0 v
/-- None, or a number that is not too great -/
def Leaf (v : V) : Prop := v = .non ∨ ∃ i : Int, v = .int i ∧ i.natAbs.log2 < 1920
theorem leaf_non : Leaf .non := .inl rfl
theorem leaf_int {i : Int} (h0 : 0 ≤ i) (h1 : i < 2 ^ 1000) : Leaf (.int i) := by
  refine .inr ⟨i, rfl, ?_⟩
  obtain ⟨n, rfl⟩ : ∃ n : Nat, i = (n : Int) := ⟨i.toNat, by omega⟩
  have hn : n < 2 ^ 1000 := by
    have e : ((2 : Int) ^ 1000) = ((2 ^ 1000 : Nat) : Int) := by norm_cast
    rw [e] at h1
    exact Int.ofNat_lt.mp h1
  by_cases z : n = 0
  · subst z
    decide
  · have : n.log2 < 1000 := (Nat.log2_lt z).mpr hn
    show n.log2 < 1920
    omega
section
variable {X : Cx}
theorem call_reprO : CallR X (.builtin "repr") (fun xs H Q => ∃ v : V, xs = [v] ∧ Leaf v ∧ Q (.str (shO v)) H) := by
  intro pn s σ H xs us Q I r told
  obtain ⟨v, rfl, lf, q⟩ := told
  obtain ⟨u, rfl, ru⟩ := vals1 r
  unfold shO at q
  rcases lf with rfl | ⟨i, rfl, hi⟩
  · obtain rfl : u = Value.none := ru
    exact PySem.P.repr_of_none ⟨.str _, H, I.tok _, ⟨_, rfl⟩, q⟩
  · obtain ⟨t, rfl⟩ := ru
    exact PySem.P.repr_of_int hi ⟨.str _, H, I.tok _, ⟨_, rfl⟩, q⟩
end
end G1
/-! repr of lists of numbers and None -/
namespace G1
open PySem PySem.Spec PyProof.Rows L2
/-- None, or a number below 10 ** 30 -/
def Num (d : PyData) : Prop := d = .none ∨ ∃ i : Int, d = .int i ∧ 0 ≤ i ∧ i < 10 ^ 30
theorem num_weight {d : PyData} (h : Num d) : d.weight ≤ 101 := by
  rcases h with rfl | ⟨i, rfl, h0, h1⟩
  · exact Nat.zero_le _
  · show (if i == 0 then 0 else i.natAbs.log2 + 1) ≤ 101
    split
    · omega
    · obtain ⟨n, rfl⟩ : ∃ n : Nat, i = (n : Int) := ⟨i.toNat, by omega⟩
      rename_i hz
      have z : n ≠ 0 := fun e => by rw [e] at hz; exact hz rfl
      have hn : n < 2 ^ 100 := by
        have e : (10 : Int) ^ 30 < ((2 ^ 100 : Nat) : Int) := by decide
        omega
      have : n.log2 < 100 := (Nat.log2_lt z).mpr hn
      show n.log2 + 1 ≤ 101
      omega
theorem num_short {d : PyData} (h : Num d) : d.leavesShort 40 = true := by
  rcases h with rfl | ⟨i, rfl, h0, h1⟩
  · rfl
  · show decide ((PyData.shown (.int i)).length ≤ 40) = true
    rw [decide_eq_true_eq]
    have e := PyProof.Rows.toString_length_le h0 (k := 30) (by decide) h1
    have e2 : (PyData.shown (.int i)).length = (Str.ofString (toString i)).length := rfl
    omega
theorem log_ok {i : Int} (h0 : 0 ≤ i) (h1 : i < 10 ^ 30) : i.natAbs.log2 < 1920 := by
  rcases leaf_int h0 (Int.lt_trans h1 (by decide)) with e | ⟨j, e, h⟩
  · cases e
  · obtain rfl := V.int.inj e
    exact h
theorem num_all : ∀ ds : List PyData, (∀ d ∈ ds, Num d) → PyData.showableAll ds = true ∧ PyData.hasDictAll ds = false ∧ PyData.depthAll ds ≤ 20 ∧ PyData.leavesShortAll 40 ds = true ∧ PyData.weightAll ds ≤ 102 * ds.length
  | [], _ => by simp [PyData.showableAll, PyData.hasDictAll, PyData.depthAll, PyData.leavesShortAll, PyData.weightAll]
  | d :: ds, h => by
    obtain ⟨h1, h2, h3, h4, h5⟩ := num_all ds fun e he => h e (List.mem_cons_of_mem _ he)
    have n := h d List.mem_cons_self
    have nw := num_weight n
    have ns := num_short n
    refine ⟨?_, ?_, ?_, ?_, ?_⟩
    · rcases n with rfl | ⟨i, rfl, i0, i1⟩
      · simp [PyData.showableAll, PyData.showable, h1]
      · simp [PyData.showableAll, PyData.showable, h1, log_ok i0 i1]
    · rcases n with rfl | ⟨i, rfl, _⟩ <;> simp [PyData.hasDictAll, PyData.hasDict, h2]
    · rcases n with rfl | ⟨i, rfl, _⟩ <;> (simp only [PyData.depthAll, PyData.depth]; omega)
    · simp [PyData.leavesShortAll, h4, ns]
    · simp only [PyData.weightAll, List.length_cons]
      omega
theorem repr_nums {K : PySem.W.Frag} {H : Hp} {R : PyData → Prop} {a : Addr} {xs : List V} (ds : List PyData) (e : H a = some (.lst xs)) (hd : DpAll K H xs ds) (hs : ∀ d ∈ ds, Num d) (hl : ds.length ≤ 40) (q : R (.list ds)) :
    ∃ (a' : Addr) (d' : PyData), [V.ref a] = [V.ref a'] ∧ Dp K H (.ref a') d' ∧ d'.showable = true ∧ d'.hasDict = false ∧ d'.depth ≤ 60 ∧ d'.shown.length ≤ sizeLine ∧ R d' := by
  obtain ⟨h1, h2, h3, h4, h5⟩ := num_all ds hs
  refine ⟨a, .list ds, rfl, .lst (.inl (.inl e)) hd, ?_, ?_, ?_, ?_, q⟩
  · simp only [PyData.showable]; exact h1
  · simp only [PyData.hasDict]; exact h2
  · simp only [PyData.depth]; omega
  · have s := PyData.shown_le 40 (by decide) (.list ds) (by simp only [PyData.leavesShort]; exact h4)
    simp only [PyData.weight] at s
    have : 102 * ds.length ≤ 102 * 40 := Nat.mul_le_mul_left _ hl
    exact Nat.le_trans s (Nat.le_trans (by omega : 42 * PyData.weightAll ds + 40 ≤ 200000) (by decide))
end G1
/-! draws from a dict: two lists, a sum and a count under a name of its own -/
namespace G1
open PySem PySem.Spec PyProof.Rows L2
/-- the dict's pairs -/
def dkv (m : Str) (g c : Addr) (W k : Int) : List (Key × V) := [(Sum.inr ("great" : Str), .ref g), (Sum.inr ("cells" : Str), .ref c), (Sum.inr ("whole" : Str), .int W), (Sum.inr m, .int k)]
/-- the deck at w, its great numbers at g -/
def DkAt (m : Str) (w g : Addr) (H : Hp) : Prop := ∃ (c : Addr) (gs cs : List Int) (W k : Int), w ≠ g ∧ c ≠ g ∧ c ≠ w ∧ H w = some (.dK (dkv m g c W k)) ∧
  H g = some (.lst (gs.map V.int)) ∧ H c = some (.lst (cs.map V.int)) ∧ 0 < cs.length ∧ gs.length ≤ 1000 ∧ cs.length ≤ 1000
section
variable {m : Str} {w g p : Addr} {H H' : Hp} {o : HO}
theorem DkAt.same (D : DkAt m w g H) (s : Same H H') : DkAt m w g H' := by
  obtain ⟨c, gs, cs, W, k, h1, h2, h3, h4, h5, h6, h7⟩ := D
  exact ⟨c, gs, cs, W, k, h1, h2, h3, s _ _ h4, s _ _ h5, s _ _ h6, h7⟩
theorem DkAt.fresh (D : DkAt m w g H) (h : H p = none) : p ≠ w ∧ p ≠ g := by
  obtain ⟨c, gs, cs, W, k, h1, h2, h3, h4, h5, h6, h7⟩ := D
  exact ⟨(ne_of_none h4 h).symm, (ne_of_none h5 h).symm⟩
theorem new_ofK (D : DkAt m w g H) (hp : H p = none) (e : upd H p o = H') : Same H H' ∧ DkAt m w g H' ∧ At w g H' p o := by
  subst e
  exact ⟨same_new hp, D.same (same_new hp), (D.fresh hp).1, (D.fresh hp).2, upd_same⟩
theorem DkAt.tup {a : Addr} {xs : List V} (D : DkAt m w g H) (h : H a = some (.tup xs)) : At w g H a (.tup xs) := by
  obtain ⟨c, gs, cs, W, k, h1, h2, h3, h4, h5, h6, h7⟩ := D
  exact ⟨ne_of h h4 (by intro z; cases z), ne_of h h5 (by intro z; cases z), h⟩
end
theorem dk_get {m : Str} {g c : Addr} {W k : Int} (hm : Sum.inr m ≠ (Sum.inr ("great" : Str) : Key) ∧ Sum.inr m ≠ (Sum.inr ("cells" : Str) : Key) ∧ Sum.inr m ≠ (Sum.inr ("whole" : Str) : Key)) :
    valV (dkv m g c W k) (Sum.inr ("great" : Str)) = some (.ref g) ∧ valV (dkv m g c W k) (Sum.inr ("cells" : Str)) = some (.ref c) ∧ valV (dkv m g c W k) (Sum.inr ("whole" : Str)) = some (.int W) ∧ valV (dkv m g c W k) (Sum.inr m) = some (.int k) := by
  have e1 : (Sum.inr ("great" : Str) : Key) ≠ Sum.inr ("cells" : Str) := by decide
  have e2 : (Sum.inr ("great" : Str) : Key) ≠ Sum.inr ("whole" : Str) := by decide
  have e3 : (Sum.inr ("cells" : Str) : Key) ≠ Sum.inr ("whole" : Str) := by decide
  refine ⟨?_, ?_, ?_, ?_⟩
  · simp [dkv, valV]
  · simp [dkv, valV, e1]
  · simp [dkv, valV, e2, e3]
  · simp [dkv, valV, hm.1.symm, hm.2.1.symm, hm.2.2.symm]
end G1
/-! numbers at which two watches go -/
namespace Meet
/-- both go -/
def Both (f1 t1 f2 t2 n : Nat) : Prop := f1 ≤ n ∧ f2 ≤ n ∧ (n - f1) % t1 = 0 ∧ (n - f2) % t2 = 0
theorem Both.symm {f1 t1 f2 t2 n : Nat} (h : Both f1 t1 f2 t2 n) : Both f2 t2 f1 t1 n := ⟨h.2.1, h.1, h.2.2.2, h.2.2.1⟩
/-- the least one -/
structure IsMeet (f1 t1 f2 t2 n : Nat) : Prop where
  both : Both f1 t1 f2 t2 n
  low : ∀ m, m < n → ¬ Both f1 t1 f2 t2 m
theorem IsMeet.symm {f1 t1 f2 t2 n : Nat} (h : IsMeet f1 t1 f2 t2 n) : IsMeet f2 t2 f1 t1 n := ⟨h.both.symm, fun m hm z => h.low m hm z.symm⟩
theorem IsMeet.uniq {f1 t1 f2 t2 n m : Nat} (a : IsMeet f1 t1 f2 t2 n) (b : IsMeet f1 t1 f2 t2 m) : n = m := by
  rcases Nat.lt_trichotomy n m with c | c | c
  · exact absurd a.both (b.low n c)
  · exact c
  · exact absurd b.both (a.low m c)
/-- the first number from low on at which (f, t) goes -/
structure IsStart (f t low s : Nat) : Prop where
  ge : low ≤ s
  lt : s < low + t
  at_ : ∃ q, s = f + q * t
theorem mod_mul {f t n : Nat} (h : f ≤ n) : (n - f) % t = 0 ↔ ∃ q, n = f + q * t := by
  constructor
  · intro e
    refine ⟨(n - f) / t, ?_⟩
    have := Nat.mod_add_div (n - f) t
    rw [Nat.mul_comm] at this
    omega
  · rintro ⟨q, rfl⟩
    rw [Nat.add_sub_cancel_left, Nat.mul_mod_left]
section
variable {f1 t1 f2 t2 s : Nat}
/-- each common number is so many steps behind the start -/
theorem from_start (p1 : 0 < t1) (x : IsStart f1 t1 (max f1 f2) s) {m : Nat} (b : Both f1 t1 f2 t2 m) : ∃ j, m = s + j * t1 := by
  obtain ⟨q, hq⟩ := x.at_
  obtain ⟨r, hr⟩ := (mod_mul b.1).mp b.2.2.1
  have h1 := x.lt
  have h2 := b.1
  have h3 := b.2.1
  have h4 : max f1 f2 ≤ m := Nat.max_le.mpr ⟨h2, h3⟩
  have qr : q ≤ r := by
    rcases Nat.lt_or_ge r q with c | c
    · have : (r + 1) * t1 ≤ q * t1 := Nat.mul_le_mul_right _ c
      rw [Nat.add_mul, Nat.one_mul] at this
      omega
    · exact c
  refine ⟨r - q, ?_⟩
  rw [Nat.sub_mul]
  have := Nat.mul_le_mul_right t1 qr
  omega
theorem at_start (x : IsStart f1 t1 (max f1 f2) s) (j : Nat) : Both f1 t1 f2 t2 (s + j * t1) ↔ (s + j * t1 - f2) % t2 = 0 := by
  obtain ⟨q, hq⟩ := x.at_
  have h1 := x.ge
  have h2 := Nat.le_max_left f1 f2
  have h3 := Nat.le_max_right f1 f2
  constructor
  · exact fun b => b.2.2.2
  · intro e
    refine ⟨by omega, by omega, (mod_mul (by omega)).mpr ⟨q + j, by rw [Nat.add_mul]; omega⟩, e⟩
/-- what the search finds is the least -/
theorem found (p1 : 0 < t1) (x : IsStart f1 t1 (max f1 f2) s) {j : Nat} (no : ∀ k, k < j → ¬ (s + k * t1 - f2) % t2 = 0) (yes : (s + j * t1 - f2) % t2 = 0) : IsMeet f1 t1 f2 t2 (s + j * t1) := by
  refine ⟨(at_start x j).mpr yes, fun m hm b => ?_⟩
  obtain ⟨k, rfl⟩ := from_start p1 x b
  refine no k ?_ ((at_start x k).mp b)
  rcases Nat.lt_or_ge k j with c | c
  · exact c
  · have := Nat.mul_le_mul_right t1 c
    omega
/-- where the search finds nothing there is none -/
theorem none_at (p1 : 0 < t1) (p2 : 0 < t2) (x : IsStart f1 t1 (max f1 f2) s) (no : ∀ k, k < t2 → ¬ (s + k * t1 - f2) % t2 = 0) : ∀ m, ¬ Both f1 t1 f2 t2 m := by
  intro m b
  obtain ⟨j, rfl⟩ := from_start p1 x b
  refine no (j % t2) (Nat.mod_lt _ p2) ?_
  have e := (at_start x j).mp b
  have h3 := Nat.le_max_right f1 f2
  have h1 := x.ge
  have d := Nat.mod_add_div j t2
  obtain ⟨q, hq⟩ := (mod_mul (by omega)).mp e
  -- s + j t1 = s + (j % t2) t1 + t2 * (..)
  have e2 : j * t1 = (j % t2) * t1 + (j / t2 * t1) * t2 := by
    calc j * t1 = (j % t2 + t2 * (j / t2)) * t1 := by rw [d]
      _ = _ := by rw [Nat.add_mul, Nat.mul_comm t2 (j / t2), Nat.mul_assoc, Nat.mul_comm t2 t1, ← Nat.mul_assoc]
  have e3 : s + j * t1 - f2 = (s + j % t2 * t1 - f2) + (j / t2 * t1) * t2 := by omega
  rw [e3, Nat.add_mul_mod_self_right] at e
  exact e
end
theorem bezout (a b : Nat) : ∃ x y : Int, (a : Int) * x + (b : Int) * y = (Nat.gcd a b : Nat) := by
  induction a, b using Nat.gcd.induction with
  | H0 n => exact ⟨0, 1, by simp⟩
  | H1 m n hm ih =>
    obtain ⟨x, y, h⟩ := ih
    refine ⟨y - (n / m : Nat) * x, x, ?_⟩
    rw [Nat.gcd_rec, ← h]
    have d := Nat.mod_add_div n m
    have d2 : (n : Int) = ((n % m : Nat) : Int) + (m : Int) * ((n / m : Nat) : Int) := by
      rw [← Int.natCast_mul, ← Int.natCast_add, d]
    rw [d2, Int.mul_sub, Int.add_mul, ← Int.mul_assoc (m : Int)]
    have e0 : ((n % m : Nat) : Int) = ((((n % m : Nat) : Int) + (m : Int) * ((n / m : Nat) : Int)).toNat % m : Nat) := by
      rw [← d2, Int.toNat_natCast]
    generalize ((n % m : Nat) : Int) * x = A
    generalize (m : Int) * ((n / m : Nat) : Int) * x = B
    omega
/-- there is one exactly if the greatest common divisor divides the difference -/
theorem exists_iff {f1 t1 f2 t2 : Nat} (p1 : 0 < t1) (p2 : 0 < t2) : (∃ n, Both f1 t1 f2 t2 n) ↔ ((f1 : Int) - (f2 : Int)).natAbs % Nat.gcd t1 t2 = 0 := by
  have g1 := Nat.gcd_dvd_left t1 t2
  have g2 := Nat.gcd_dvd_right t1 t2
  constructor
  · rintro ⟨n, h1, h2, h3, h4⟩
    obtain ⟨q, hq⟩ := (mod_mul h1).mp h3
    obtain ⟨r, hr⟩ := (mod_mul h2).mp h4
    apply Nat.mod_eq_zero_of_dvd
    apply Int.ofNat_dvd_left.mp
    have e : (f1 : Int) - (f2 : Int) = (r : Int) * (t2 : Int) - (q : Int) * (t1 : Int) := by
      rw [← Int.natCast_mul, ← Int.natCast_mul]
      omega
    rw [e]
    exact Int.dvd_sub (Int.dvd_trans (Int.natCast_dvd_natCast.mpr g2) (Int.dvd_mul_left _ _)) (Int.dvd_trans (Int.natCast_dvd_natCast.mpr g1) (Int.dvd_mul_left _ _))
  · intro e
    obtain ⟨k, hk⟩ := Int.ofNat_dvd_left.mpr (Nat.dvd_of_mod_eq_zero e)
    obtain ⟨x, y, hb⟩ := bezout t1 t2
    rw [← hb] at hk
    obtain ⟨M, hM⟩ : ∃ M : Nat, M = (x * k).natAbs + (y * k).natAbs := ⟨_, rfl⟩
    have a1 : 0 ≤ (t2 : Int) * (M : Int) - x * k := by
      have : (M : Int) ≤ (t2 : Int) * (M : Int) := by
        rw [← Int.natCast_mul]
        exact Int.ofNat_le.mpr (Nat.le_mul_of_pos_left _ p2)
      omega
    have a2 : 0 ≤ (t1 : Int) * (M : Int) + y * k := by
      have : (M : Int) ≤ (t1 : Int) * (M : Int) := by
        rw [← Int.natCast_mul]
        exact Int.ofNat_le.mpr (Nat.le_mul_of_pos_left _ p1)
      omega
    obtain ⟨u, hu⟩ : ∃ u : Nat, (t2 : Int) * (M : Int) - x * k = u := ⟨_, (Int.toNat_of_nonneg a1).symm⟩
    obtain ⟨v, hv⟩ : ∃ v : Nat, (t1 : Int) * (M : Int) + y * k = v := ⟨_, (Int.toNat_of_nonneg a2).symm⟩
    have key : f1 + u * t1 = f2 + v * t2 := by
      have : (f1 : Int) + (u : Int) * (t1 : Int) = (f2 : Int) + (v : Int) * (t2 : Int) := by
        rw [← hu, ← hv, Int.sub_mul, Int.add_mul]
        rw [Int.add_mul, Int.mul_assoc, Int.mul_assoc] at hk
        have c1 : x * k * (t1 : Int) = (t1 : Int) * (x * k) := Int.mul_comm _ _
        have c2 : y * k * (t2 : Int) = (t2 : Int) * (y * k) := Int.mul_comm _ _
        have c3 : (t2 : Int) * (M : Int) * (t1 : Int) = (t1 : Int) * (M : Int) * (t2 : Int) := by rw [Int.mul_comm (t2 : Int), Int.mul_comm (t1 : Int), Int.mul_assoc, Int.mul_assoc, Int.mul_comm (t2 : Int)]
        rw [c1, c2, c3]
        omega
      rw [← Int.natCast_mul, ← Int.natCast_mul] at this
      omega
    refine ⟨f1 + u * t1, Nat.le_add_right _ _, by rw [key]; exact Nat.le_add_right _ _, (mod_mul (Nat.le_add_right _ _)).mpr ⟨u, rfl⟩, ?_⟩
    rw [key]
    exact (mod_mul (Nat.le_add_right _ _)).mpr ⟨v, rfl⟩
end Meet
namespace G19
open PySem PySem.Spec PyProof.Rows L2 G1 Meet
local macro_rules | `(tactic| walk_at "side") => `(tactic| first
  | assumption
  | omega
  | (constructor <;> omega)
  | rfl
  | decide
  | (dsimp only; decide)
  | (refine szl ?_; simp only [List.length_cons, List.length_nil]; omega)
  | (unfold CMul; omega)
  | (unfold CDiv; omega)
  | (unfold CPow; omega)
  | (unfold CMul; simp; done)
  | (unfold CMul; simp; omega)
  | (simp only [List.length_map, List.length_append, List.length_take, List.length_drop, rep_length, List.length_cons, List.length_nil, Nat.zero_add, Nat.mul_one]; omega))
local macro_rules | `(tactic| walk_at "go1") => `(tactic| first
  | (apply go_bit; (focus walk_at "side"); rw [B_str _ (by walk_at "side") (by walk_at "side")])
  | (apply go_lenS; (focus walk_at "side"); simp only [B_len])
  | (apply go_addS; (focus walk_at "side"); rw [B_app])
  | (apply go_mulS; (focus walk_at "side"); (focus walk_at "side"); rw [B_mul _ (by walk_at "side")])
  | (apply go_sl; (focus walk_at "side"); first | rw [B_last] | rw [B_init] | rw [B_to _ (by walk_at "side")] | rw [B_from _ (by walk_at "side")] | rw [B_mid _ (by walk_at "side") (by walk_at "side")])
  | refine ⟨_, rfl, ?_⟩
  | refine ⟨_, _, rfl, rfl, ?_⟩
  | refine ⟨_, _, _, rfl, rfl, ?_⟩
  | refine ⟨_, _, rfl, ?_⟩
  | refine ⟨_, _, _, rfl, ?_⟩
  | (apply go_tup; assumption)
  | (apply go_unl; assumption)
  | (apply go_ixL; assumption; (first | rfl | assumption))
  | (apply go_ixT; assumption; (first | rfl | assumption))
  | (apply go_lenL; assumption)
  | refine Or.inl ⟨_, rfl, ?_⟩
  | (refine And.intro ?ll ?_; (case ll => walk_at "side")))
local macro_rules | `(tactic| walk_at "go") => `(tactic| repeat (walk_at "go1"))
def topS (i : Nat) : Stmt := PySem.Challenge.pw_leastmakers_k19_hands_and_meetings.main.body.getD i (.Pass ⟨0, 0, 0, 0⟩)
abbrev s_hands : Stmt := topS 1
abbrev nm_hands : List Str := ["watches", "number", "place", "watch"]
theorem sc_hands : FnScope nm_hands ["watches", "number"] (defScope s_hands) := ⟨rfl, rfl, rfl, by decide +kernel, rfl, by decide +kernel, by decide +kernel⟩
abbrev s_goes : Stmt := topS 2
abbrev nm_goes : List Str := ["watch", "number", "first", "turn"]
theorem sc_goes : FnScope nm_goes ["watch", "number"] (defScope s_goes) := ⟨rfl, rfl, rfl, by decide +kernel, rfl, by decide +kernel, by decide +kernel⟩
abbrev s_meeting : Stmt := topS 3
abbrev nm_meeting : List Str := ["one", "other", "first", "turn", "start", "number"]
theorem sc_meeting : FnScope nm_meeting ["one", "other"] (defScope s_meeting) := ⟨rfl, rfl, rfl, by decide +kernel, rfl, by decide +kernel, by decide +kernel⟩
abbrev s_deck : Stmt := topS 5
abbrev nm_deck : List Str := ["_law_script", "_law_cells", "_law_great", "_law_cell"]
theorem sc_deck : FnScope nm_deck ["_law_script"] (defScope s_deck) := ⟨rfl, rfl, rfl, by decide +kernel, rfl, by decide +kernel, by decide +kernel⟩
abbrev s_draw : Stmt := topS 6
abbrev nm_draw : List Str := ["_law_deck_here", "_law_size", "_law_rest", "_law_turn", "_law_cell", "_law_mixed"]
theorem sc_draw : FnScope nm_draw ["_law_deck_here", "_law_size"] (defScope s_draw) := ⟨rfl, rfl, rfl, by decide +kernel, rfl, by decide +kernel, by decide +kernel⟩
abbrev s_pick : Stmt := topS 7
abbrev nm_pick : List Str := ["_law_deck_here", "_law_row"]
theorem sc_pick : FnScope nm_pick ["_law_deck_here", "_law_row"] (defScope s_pick) := ⟨rfl, rfl, rfl, by decide +kernel, rfl, by decide +kernel, by decide +kernel⟩
abbrev s_far : Stmt := topS 8
abbrev nm_far : List Str := ["_law_deck_here", "_law_most", "_law_found", "_law_turn"]
theorem sc_far : FnScope nm_far ["_law_deck_here", "_law_most"] (defScope s_far) := ⟨rfl, rfl, rfl, by decide +kernel, rfl, by decide +kernel, by decide +kernel⟩
abbrev s_divisor : Stmt := topS 9
abbrev nm_divisor : List Str := ["_law_left", "_law_right"]
theorem sc_divisor : FnScope nm_divisor ["_law_left", "_law_right"] (defScope s_divisor) := ⟨rfl, rfl, rfl, by decide +kernel, rfl, by decide +kernel, by decide +kernel⟩
abbrev s_lot : Stmt := topS 10
abbrev nm_lot : List Str := ["_law_deck_here", "_law_lot_here", "_law_turn", "_law_first"]
theorem sc_lot : FnScope nm_lot ["_law_deck_here"] (defScope s_lot) := ⟨rfl, rfl, rfl, by decide +kernel, rfl, by decide +kernel, by decide +kernel⟩
abbrev s_lot_at : Stmt := topS 11
abbrev nm_lot_at : List Str := ["_law_deck_here", "_law_goal", "_law_lot_here", "_law_place", "_law_turn", "_law_rest", "_law_first"]
theorem sc_lot_at : FnScope nm_lot_at ["_law_deck_here", "_law_goal"] (defScope s_lot_at) := ⟨rfl, rfl, rfl, by decide +kernel, rfl, by decide +kernel, by decide +kernel⟩
abbrev s_lgoes : Stmt := topS 12
abbrev nm_lgoes : List Str := ["_law_watch", "_law_at"]
theorem sc_lgoes : FnScope nm_lgoes ["_law_watch", "_law_at"] (defScope s_lgoes) := ⟨rfl, rfl, rfl, by decide +kernel, rfl, by decide +kernel, by decide +kernel⟩
abbrev s_near : Stmt := topS 13
abbrev nm_near : List Str := ["_law_deck_here", "_law_lot_here", "_law_first", "_law_turn", "_law_at"]
theorem sc_near : FnScope nm_near ["_law_deck_here", "_law_lot_here"] (defScope s_near) := ⟨rfl, rfl, rfl, by decide +kernel, rfl, by decide +kernel, by decide +kernel⟩
abbrev s_met : Stmt := topS 14
abbrev nm_met : List Str := ["_law_left", "_law_right", "_law_low", "_law_begin", "_law_k"]
theorem sc_met : FnScope nm_met ["_law_left", "_law_right"] (defScope s_met) := ⟨rfl, rfl, rfl, by decide +kernel, rfl, by decide +kernel, by decide +kernel⟩
abbrev s_pairs : Stmt := topS 15
abbrev nm_pairs : List Str := ["_law_deck_here", "_law_lot_here", "_law_first", "_law_turn", "_law_some"]
theorem sc_pairs : FnScope nm_pairs ["_law_deck_here", "_law_lot_here"] (defScope s_pairs) := ⟨rfl, rfl, rfl, by decide +kernel, rfl, by decide +kernel, by decide +kernel⟩
abbrev s_law : Stmt := topS 16
abbrev nm_law : List Str := ["_law_script", "_law_deck_here", "_law_k", "_law_goal", "_law_lot_here", "_law_known", "_law_at", "_law_due", "_law_left", "_law_right", "_law_told", "_law_apart", "_law_place", "_law_watch"]
theorem sc_law : FnScope nm_law ["_law_script"] (defScope s_law) := ⟨rfl, rfl, rfl, by decide +kernel, rfl, by decide +kernel, by decide +kernel⟩
structure Tp (K : PySem.W.Frag) (mg : Str → Option Value) where
  a_hands : Addr
  d_hands : FuncData
  F_hands : Fun K "hands" "hands" s_hands a_hands d_hands
  g_hands : mg "hands" = some (.ref a_hands)
  a_goes : Addr
  d_goes : FuncData
  F_goes : Fun K "_goes" "_goes" s_goes a_goes d_goes
  g_goes : mg "_goes" = some (.ref a_goes)
  a_meeting : Addr
  d_meeting : FuncData
  F_meeting : Fun K "meeting" "meeting" s_meeting a_meeting d_meeting
  g_meeting : mg "meeting" = some (.ref a_meeting)
  a_deck : Addr
  d_deck : FuncData
  F_deck : Fun K "_law_deck" "_law_deck" s_deck a_deck d_deck
  g_deck : mg "_law_deck" = some (.ref a_deck)
  a_draw : Addr
  d_draw : FuncData
  F_draw : Fun K "_law_draw" "_law_draw" s_draw a_draw d_draw
  g_draw : mg "_law_draw" = some (.ref a_draw)
  a_pick : Addr
  d_pick : FuncData
  F_pick : Fun K "_law_pick" "_law_pick" s_pick a_pick d_pick
  g_pick : mg "_law_pick" = some (.ref a_pick)
  a_far : Addr
  d_far : FuncData
  F_far : Fun K "_law_far" "_law_far" s_far a_far d_far
  g_far : mg "_law_far" = some (.ref a_far)
  a_divisor : Addr
  d_divisor : FuncData
  F_divisor : Fun K "_law_divisor" "_law_divisor" s_divisor a_divisor d_divisor
  g_divisor : mg "_law_divisor" = some (.ref a_divisor)
  a_lot : Addr
  d_lot : FuncData
  F_lot : Fun K "_law_lot" "_law_lot" s_lot a_lot d_lot
  g_lot : mg "_law_lot" = some (.ref a_lot)
  a_lot_at : Addr
  d_lot_at : FuncData
  F_lot_at : Fun K "_law_lot_at" "_law_lot_at" s_lot_at a_lot_at d_lot_at
  g_lot_at : mg "_law_lot_at" = some (.ref a_lot_at)
  a_lgoes : Addr
  d_lgoes : FuncData
  F_lgoes : Fun K "_law_goes" "_law_goes" s_lgoes a_lgoes d_lgoes
  g_lgoes : mg "_law_goes" = some (.ref a_lgoes)
  a_near : Addr
  d_near : FuncData
  F_near : Fun K "_law_near" "_law_near" s_near a_near d_near
  g_near : mg "_law_near" = some (.ref a_near)
  a_met : Addr
  d_met : FuncData
  F_met : Fun K "_law_met" "_law_met" s_met a_met d_met
  g_met : mg "_law_met" = some (.ref a_met)
  a_pairs : Addr
  d_pairs : FuncData
  F_pairs : Fun K "_law_pairs" "_law_pairs" s_pairs a_pairs d_pairs
  g_pairs : mg "_law_pairs" = some (.ref a_pairs)
  a_law : Addr
  d_law : FuncData
  F_law : Fun K "law" "law" s_law a_law d_law
  g_law : mg "law" = some (.ref a_law)
  n_abs : mg "abs" = none
  n_enumerate : mg "enumerate" = none
  n_int : mg "int" = none
  n_len : mg "len" = none
  n_max : mg "max" = none
  n_range : mg "range" = none
  n_repr : mg "repr" = none
  n_sum : mg "sum" = none
  n_tuple : mg "tuple" = none
section
variable {K : PySem.W.Frag} {mg : Str → Option Value} (T : Tp K mg)
theorem b_hands : Binds K T.d_hands ["watches", "number"] [] := T.F_hands.binds (ps := ["watches", "number"]) fun _ _ _ _ _ _ us hl => match us, hl with | [_, _], _ => rfl
theorem b_goes : Binds K T.d_goes ["watch", "number"] [] := T.F_goes.binds (ps := ["watch", "number"]) fun _ _ _ _ _ _ us hl => match us, hl with | [_, _], _ => rfl
theorem b_meeting : Binds K T.d_meeting ["one", "other"] [] := T.F_meeting.binds (ps := ["one", "other"]) fun _ _ _ _ _ _ us hl => match us, hl with | [_, _], _ => rfl
theorem b_deck : Binds K T.d_deck ["_law_script"] [] := T.F_deck.binds (ps := ["_law_script"]) fun _ _ _ _ _ _ us hl => match us, hl with | [_], _ => rfl
theorem b_draw : Binds K T.d_draw ["_law_deck_here", "_law_size"] [] := T.F_draw.binds (ps := ["_law_deck_here", "_law_size"]) fun _ _ _ _ _ _ us hl => match us, hl with | [_, _], _ => rfl
theorem b_pick : Binds K T.d_pick ["_law_deck_here", "_law_row"] [] := T.F_pick.binds (ps := ["_law_deck_here", "_law_row"]) fun _ _ _ _ _ _ us hl => match us, hl with | [_, _], _ => rfl
theorem b_far : Binds K T.d_far ["_law_deck_here", "_law_most"] [] := T.F_far.binds (ps := ["_law_deck_here", "_law_most"]) fun _ _ _ _ _ _ us hl => match us, hl with | [_, _], _ => rfl
theorem b_divisor : Binds K T.d_divisor ["_law_left", "_law_right"] [] := T.F_divisor.binds (ps := ["_law_left", "_law_right"]) fun _ _ _ _ _ _ us hl => match us, hl with | [_, _], _ => rfl
theorem b_lot : Binds K T.d_lot ["_law_deck_here"] [] := T.F_lot.binds (ps := ["_law_deck_here"]) fun _ _ _ _ _ _ us hl => match us, hl with | [_], _ => rfl
theorem b_lot_at : Binds K T.d_lot_at ["_law_deck_here", "_law_goal"] [] := T.F_lot_at.binds (ps := ["_law_deck_here", "_law_goal"]) fun _ _ _ _ _ _ us hl => match us, hl with | [_, _], _ => rfl
theorem b_lgoes : Binds K T.d_lgoes ["_law_watch", "_law_at"] [] := T.F_lgoes.binds (ps := ["_law_watch", "_law_at"]) fun _ _ _ _ _ _ us hl => match us, hl with | [_, _], _ => rfl
theorem b_near : Binds K T.d_near ["_law_deck_here", "_law_lot_here"] [] := T.F_near.binds (ps := ["_law_deck_here", "_law_lot_here"]) fun _ _ _ _ _ _ us hl => match us, hl with | [_, _], _ => rfl
theorem b_met : Binds K T.d_met ["_law_left", "_law_right"] [] := T.F_met.binds (ps := ["_law_left", "_law_right"]) fun _ _ _ _ _ _ us hl => match us, hl with | [_, _], _ => rfl
theorem b_pairs : Binds K T.d_pairs ["_law_deck_here", "_law_lot_here"] [] := T.F_pairs.binds (ps := ["_law_deck_here", "_law_lot_here"]) fun _ _ _ _ _ _ us hl => match us, hl with | [_, _], _ => rfl
theorem b_law : Binds K T.d_law ["_law_script"] [] := T.F_law.binds (ps := ["_law_script"]) fun _ _ _ _ _ _ us hl => match us, hl with | [_], _ => rfl
end
set_option pp.deepTerms false
set_option pp.deepTerms.threshold 5
section
variable {P : Program} {wd : World} {K : PySem.W.Frag} {mg : Str → Option Value} {base : Heap} (T : Tp K mg)
theorem mem_ints {x : V} {ns : List Int} {xs : List V} (e : xs = ns.map V.int) (h : x ∈ xs) : ∃ i ∈ ns, x = .int i := by
  subst e
  obtain ⟨i, h1, h2⟩ := List.mem_map.mp h
  exact ⟨i, h1, h2.symm⟩
theorem cut63 {xs : List V} {n : Nat} (h : xs.length ≤ n) : cutV xs none (some (n : Int)) = xs := by
  unfold cutV
  rw [sIx_of _ _ (by omega)]
  show (xs.drop 0).take (min (n : Int).toNat xs.length - 0) = xs
  rw [List.drop_zero, Nat.sub_zero, Int.toNat_natCast, Nat.min_eq_right h, List.take_length]
abbrev Dk (w g : Addr) (H : Hp) : Prop := DkAt "drawn" w g H
theorem kd {g c : Addr} {W k : Int} : valV (dkv "drawn" g c W k) (Sum.inr ("great" : Str)) = some (.ref g) ∧ valV (dkv "drawn" g c W k) (Sum.inr ("cells" : Str)) = some (.ref c) ∧
    valV (dkv "drawn" g c W k) (Sum.inr ("whole" : Str)) = some (.int W) ∧ valV (dkv "drawn" g c W k) (Sum.inr ("drawn" : Str)) = some (.int k) := dk_get (by decide)
def spDeck (K : PySem.W.Frag) : Sp := fun vs H Q _ => ∃ (a : Addr) (ns : List Int), vs = [.ref a] ∧ SqL K H a (ns.map V.int) ∧ ns.length ≤ 63 ∧
  ∀ w g H', Same H H' → Dk w g H' → Q (.ref w) H'
theorem ok_deck : FnOk P wd K mg base CX0 1 T.a_deck T.d_deck ["_law_script"] (spDeck K) := by
  refine T.F_deck.ok sc_deck (fun vs H Q E h => ?_) (fun cdv A outer s H vs Q E hr h => ?_)
  · obtain ⟨a, ns, rfl, _⟩ := h
    rfl
  · obtain ⟨a, ns, rfl, hS, hl, q⟩ := h
    refine ⟨_, (pss_cons (ps_setLc (i := 1) (own := [("_law_cell", 3)]) rfl sc_deck.nd rfl rfl (sw_true rfl rfl rfl (by decide +kernel)) (pi_list (pe_slice sl_list (pv 0) po_none (po_some pe_int))) (blkOk_by (N := nm_deck) (sc := defScope s_deck) (by decide +kernel)) (fun _ _ _ _ _ => pg_name (i := 3) sc_deck.nd rfl (Or.inl rfl)) (fun _ _ _ _ _ => pts_nil) (fun _ _ _ _ _ => (pe_ifExp (pt_cmpR op_gt (pv 3) pe_int (nomark _)) (pe_op op_mul pe_int (pv 3)) (pe_op op_sub pe_int (pe_op op_mul pe_int (pv 3))))))
      (pss_cons (ps_setLc (i := 2) (own := [("_law_cell", 3)]) rfl sc_deck.nd rfl rfl (sw_true rfl rfl rfl (by decide +kernel)) (pi_list (pe_slice sl_list (pv 0) po_none (po_some pe_int))) (blkOk_by (N := nm_deck) (sc := defScope s_deck) (by decide +kernel)) (fun _ _ _ _ _ => pg_name (i := 3) sc_deck.nd rfl (Or.inl rfl)) (fun _ _ _ _ _ => pts_one (pt_cmpR op_ge (pe_callB call_abs rfl T.n_abs (by decide +kernel) (pa_cons (pv 3) pa_nil)) (pe_op op_pow pe_int pe_int) (nomark _))) (fun _ _ _ _ _ => (pe_callB call_abs rfl T.n_abs (by decide +kernel) (pa_cons (pv 3) pa_nil))))
      (pss_one (ps_ret (pe_disp (pps_cons pe_str (pv 2) (pps_cons pe_str (pe_op op_cat (pv 1) (pe_lst (pa_cons (pe_callB call_len_seq rfl T.n_len PySem.boot_len (pa_cons (pv 1) pa_nil)) pa_nil))) (pps_cons pe_str (pe_callB (cr_sum rfl) rfl T.n_sum (by decide +kernel) (pa_cons (pv 1) pa_nil)) (pps_cons pe_str pe_int pps_nil)))) rfl rfl (by simp) (by decide)))))), ?_⟩
    walk_at "go"
    refine ⟨a, ns.map V.int, rfl, hS, ?_⟩
    rw [show (63 : Int) = ((63 : Nat) : Int) from rfl, cut63 (by rw [List.length_map]; exact hl)]
    intro c nc
    generalize hU : upd H c _ = H1
    obtain ⟨s1, hc⟩ := new_of0 nc hU
    refine ⟨c, rfl, ⟨_, sqL_of hc⟩, fun D nD => ?_⟩
    refine lc_list (xs := ns.map V.int) (fun i H2 => ∃ cs : List Int, H2 D = some (.lst (cs.map V.int)) ∧ cs.length = i ∧ Same H1 H2) ⟨[], upd_same, rfl, same_new nD⟩
      (fun i H2 _ p => sqL_of (p.choose_spec.2.2 _ _ hc)) (fun i x H2 hx p => ?_) (fun H2 p => ?_)
    · obtain ⟨cs, hD, hg, S⟩ := p
      obtain ⟨z, _, rfl⟩ := mem_ints (x := x) (ns := ns) rfl (List.mem_of_getElem? hx)
      have hil : i < (ns.map V.int).length := (List.getElem?_eq_some_iff.mp hx).1
      rw [List.length_map] at hil
      refine ⟨rfl, ?_⟩
      walk_at "go"
      refine ifD (fun big => ?_) (fun nb => ?_)
      · walk_at "go"
        refine ⟨_, hD, small1000 (by rw [List.length_map]; omega), cs ++ [_], by rw [upd_same, List.map_append]; rfl, by rw [List.length_append]; simp; omega, same_mut S nD⟩
      · walk_at "go"
        refine ⟨_, hD, small1000 (by rw [List.length_map]; omega), cs ++ [_], by rw [upd_same, List.map_append]; rfl, by rw [List.length_append]; simp; omega, same_mut S nD⟩
    · obtain ⟨cs, hD, hcl, S⟩ := p
      rw [List.length_map] at hcl
      walk_at "go"
      have S0 : Same H H2 := s1.trans S
      refine ⟨a, ns.map V.int, rfl, S0.seq hS, ?_⟩
      rw [cut63 (by rw [List.length_map]; exact hl)]
      intro c2 nc2
      generalize hU2 : upd H2 c2 _ = H3
      obtain ⟨s3, hc2⟩ := new_of0 nc2 hU2
      refine ⟨c2, rfl, ⟨_, sqL_of hc2⟩, fun D2 nD2 => ?_⟩
      refine lc_list (xs := ns.map V.int) (fun i H2 => ∃ gs : List Int, H2 D2 = some (.lst (gs.map V.int)) ∧ gs.length ≤ i ∧ Same H3 H2) ⟨[], upd_same, Nat.zero_le _, same_new nD2⟩
        (fun i H2 _ p => sqL_of (p.choose_spec.2.2 _ _ hc2)) (fun i x H2 hx p => ?_) (fun H4 p => ?_)
      · obtain ⟨gs, hD2, hg2, S2⟩ := p
        obtain ⟨z, _, rfl⟩ := mem_ints (x := x) (ns := ns) rfl (List.mem_of_getElem? hx)
        have hil : i < (ns.map V.int).length := (List.getElem?_eq_some_iff.mp hx).1
        rw [List.length_map] at hil
        refine ⟨rfl, ?_⟩
        walk_at "go"
        refine ifD (fun big => ?_) (fun nb => ?_)
        · walk_at "go"
          refine ⟨_, hD2, small1000 (by rw [List.length_map]; omega), gs ++ [_], by rw [upd_same, List.map_append]; rfl, by rw [List.length_append]; simp; omega, same_mut S2 nD2⟩
        · exact ⟨gs, hD2, by omega, S2⟩
      · obtain ⟨gs, hD2, hg2, S2⟩ := p
        rw [List.length_map] at hg2
        have hD4 := S2 _ _ (s3 _ _ hD)
        walk_at "go"
        intro w nw
        generalize hU3 : upd H4 w _ = H5
        obtain ⟨s5, hw⟩ := new_of0 nw hU3
        have hD5 := s5 _ _ hD4
        have hG5 := s5 _ _ hD2
        walk_at "go"
        intro l1 nl1
        generalize hU4 : upd H5 l1 _ = H6
        obtain ⟨s6, hl1⟩ := new_of0 nl1 hU4
        have hD6 := s6 _ _ hD5
        refine ⟨D, l1, _, _, rfl, rfl, hD6, hl1, szl (by simp; omega), fun c3 nc3 => ?_⟩
        generalize hU5 : upd H6 c3 _ = H7
        obtain ⟨s7, hc3⟩ := new_of0 nc3 hU5
        have hD7 := s7 _ _ hD6
        walk_at "go"
        refine ⟨D, cs, rfl, sqL_of hD7, ?_⟩
        walk_at "go"
        have hw7 := s7 _ _ (s6 _ _ hw)
        refine ⟨hw7, dkv "drawn" D2 c3 cs.sum 0, rfl, by simp [dkv], ?_⟩
        have em : mergeK [] (dkv "drawn" D2 c3 cs.sum 0) = dkv "drawn" D2 c3 cs.sum 0 := by
          have e1 : (Sum.inr ("great" : Str) : Key) ≠ Sum.inr ("cells" : Str) := by decide
          have e2 : (Sum.inr ("great" : Str) : Key) ≠ Sum.inr ("whole" : Str) := by decide
          have e3 : (Sum.inr ("cells" : Str) : Key) ≠ Sum.inr ("whole" : Str) := by decide
          have e4 : (Sum.inr ("great" : Str) : Key) ≠ Sum.inr ("drawn" : Str) := by decide
          have e5 : (Sum.inr ("cells" : Str) : Key) ≠ Sum.inr ("drawn" : Str) := by decide
          have e6 : (Sum.inr ("whole" : Str) : Key) ≠ Sum.inr ("drawn" : Str) := by decide
          simp [mergeK, putK, dkv, e1, e2, e3, e4, e5, e6]
        rw [em]
        have Sall : Same H (upd H7 w (.dK (dkv "drawn" D2 c3 cs.sum 0))) := fun b o z => by
          have z4 := S2 _ _ (s3 _ _ (S0 _ _ z))
          rw [upd_ne (ne_of_none z4 nw)]
          exact s7 _ _ (s6 _ _ (s5 _ _ z4))
        have hG7 := s7 _ _ (s6 _ _ hG5)
        obtain ⟨z, hz⟩ : ∃ z : Int, H7 c3 = some (.lst ((cs ++ [z]).map V.int)) := ⟨_, by rw [List.map_append]; exact hc3⟩
        have n1 : w ≠ D2 := ne_of hw7 hG7 (by intro z; cases z)
        have n2 : c3 ≠ D2 := (ne_of_none (s6 _ _ hG5) nc3).symm
        have n3 : c3 ≠ w := ne_of hz hw7 (by intro z; cases z)
        refine q w D2 _ Sall ⟨c3, gs, cs ++ [z], cs.sum, 0, n1, n2, n3, upd_same, (upd_ne n1.symm).trans hG7, (upd_ne n3).trans hz, by simp, by omega, by simp; omega⟩
section
variable {w g c : Addr} {M k : Int} {H : Hp}
theorem dg_great (hw : H w = some (.dK (dkv "drawn" g c M k))) : DGet H w (.str "great") (some (.ref g)) := kd.1 ▸ DGet.k (k := Sum.inr "great") hw
theorem dg_cells (hw : H w = some (.dK (dkv "drawn" g c M k))) : DGet H w (.str "cells") (some (.ref c)) := kd.2.1 ▸ DGet.k (k := Sum.inr "cells") hw
theorem dg_whole (hw : H w = some (.dK (dkv "drawn" g c M k))) : DGet H w (.str "whole") (some (.int M)) := kd.2.2.1 ▸ DGet.k (k := Sum.inr "whole") hw
theorem dg_drawn (hw : H w = some (.dK (dkv "drawn" g c M k))) : DGet H w (.str "drawn") (some (.int k)) := kd.2.2.2 ▸ DGet.k (k := Sum.inr "drawn") hw
end
def spDraw : Sp := fun vs H Q _ => ∃ (w g : Addr) (n : Int), vs = [.ref w, .int n] ∧ Dk w g H ∧ 0 < n ∧ n < 1073741824 ∧
  ∀ (d : Int) H', Go w g H H' → Dk w g H' → 0 ≤ d → d < n → Q (.int d) H'
theorem kput {g c : Addr} {W k j : Int} : putK (dkv "drawn" g c W k) (Sum.inr ("drawn" : Str)) (.int j) = dkv "drawn" g c W j := by
  have e4 : (Sum.inr ("great" : Str) : Key) ≠ Sum.inr ("drawn" : Str) := by decide
  have e5 : (Sum.inr ("cells" : Str) : Key) ≠ Sum.inr ("drawn" : Str) := by decide
  have e6 : (Sum.inr ("whole" : Str) : Key) ≠ Sum.inr ("drawn" : Str) := by decide
  simp [putK, dkv, e4, e5, e6]
theorem ok_draw : FnOk P wd K mg base CX0 1 T.a_draw T.d_draw ["_law_deck_here", "_law_size"] spDraw := by
  refine T.F_draw.ok sc_draw (fun vs H Q E h => ?_) (fun cdv A outer s H vs Q E hr h => ?_)
  · obtain ⟨w, g, n, rfl, _⟩ := h
    rfl
  · have hu4 : (cxOf CX0 P wd K mg base nm_draw "_law_draw" (defScope s_draw) T.a_draw cdv A outer s H E).A.units + 64 < cLine := hr.units
    obtain ⟨w, g, n, rfl, W, n0, n1, q⟩ := h
    refine ⟨_, (pss_cons (ps_if (pt_cmpR (op_neD hu4) (pe_dget (hu_of hr) (pv 0) pe_str (fun _ _ => rfl)) (pe_lst pa_nil) (nomark _)) (pss_cons (ps_set (i := 2) sc_draw.nd rfl (Or.inl rfl) (pe_bm PySem.F.plainAttrs_list PySem.F.slot_list_pop PySem.F.type_list_pop mt_popAt (pe_dget (hu_of hr) (pv 0) pe_str (fun _ _ => rfl)) (pa_cons pe_int pa_nil)))
      (pss_cons (ps_if (pt_cmpR op_ge (pv 2) (pv 1) (nomark _)) (pss_one (ps_expr (pe_bm PySem.F.plainAttrs_list PySem.F.slot_list_insert PySem.F.type_list_insert mt_insert (pe_dget (hu_of hr) (pv 0) pe_str (fun _ _ => rfl)) (pa_cons pe_int (pa_cons (pe_op op_fdiv (pv 2) (pv 1)) pa_nil))))) pss_nil)
      (pss_one (ps_ret (pe_op op_mod (pe_callTy call_int1 rfl T.n_int (by decide +kernel) (pa_cons (pv 2) pa_nil)) (pv 1)))))) pss_nil)
      (pss_cons (ps_daug (hu_of hr) (pv 0) pe_str pe_int in_add (fun _ _ _ => rfl))
      (pss_cons (ps_set (i := 3) sc_draw.nd rfl (Or.inl rfl) (pe_dget (hu_of hr) (pv 0) pe_str (fun _ _ => rfl)))
      (pss_cons (ps_set (i := 4) sc_draw.nd rfl (Or.inl rfl) (pe_callTy call_int1 rfl T.n_int (by decide +kernel) (pa_cons (pe_ix ix_list (pe_dget (hu_of hr) (pv 0) pe_str (fun _ _ => rfl)) (pe_op op_mod (pe_callTy call_int1 rfl T.n_int (by decide +kernel) (pa_cons (pv 3) pa_nil)) (pe_callB call_len_seq rfl T.n_len PySem.boot_len (pa_cons (pe_dget (hu_of hr) (pv 0) pe_str (fun _ _ => rfl)) pa_nil))) (fun _ _ => rfl)) pa_nil)))
      (pss_cons (ps_set (i := 5) sc_draw.nd rfl (Or.inl rfl) (pe_op op_mod (pe_callTy call_int1 rfl T.n_int (by decide +kernel) (pa_cons (pe_op op_add (pe_op op_add (pe_op op_mul (pe_op op_mod (pe_callTy call_int1 rfl T.n_int (by decide +kernel) (pa_cons (pv 4) pa_nil)) pe_int) pe_int) (pe_op op_mod (pe_callTy call_int1 rfl T.n_int (by decide +kernel) (pa_cons (pe_dget (hu_of hr) (pv 0) pe_str (fun _ _ => rfl)) pa_nil)) pe_int)) (pe_op op_mul pe_int (pv 3))) pa_nil)) pe_int))
      (pss_cons (ps_set (i := 5) sc_draw.nd rfl (Or.inl rfl) (pe_op op_mod (pe_callTy call_int1 rfl T.n_int (by decide +kernel) (pa_cons (pe_op op_add (pe_op op_add (pe_op op_mul (pv 5) (pv 5)) (pe_op op_mul pe_int (pv 3))) (pe_op op_mod (pe_callTy call_int1 rfl T.n_int (by decide +kernel) (pa_cons (pv 4) pa_nil)) pe_int)) pa_nil)) pe_int))
      (pss_one (ps_ret (pe_op op_mod (pe_op op_fdiv (pe_op op_mod (pe_callTy call_int1 rfl T.n_int (by decide +kernel) (pa_cons (pe_op op_mul (pv 5) (pv 5)) pa_nil)) pe_int) pe_int) (pv 1)))))))))), ?_⟩
    obtain ⟨c, gs, cs, M, k, e1, e2, e3, hw, hg, hc, h0, hgs, hcs⟩ := W
    walk_at "go"
    refine ⟨w, .ref g, rfl, dg_great hw, ?_⟩
    walk_at "go"
    intro o no
    have s1 : Same H (upd H o (.lst [])) := same_new no
    have ho : (upd H o (.lst [])) o = some (.lst []) := upd_same
    generalize upd H o (.lst []) = H1 at s1 ho
    replace hw := s1 _ _ hw
    replace hg := s1 _ _ hg
    replace hc := s1 _ _ hc
    refine ⟨.list (gs.map PyData.int), .list [], .lst (sqL_of hg) (dpAll_ints _), .lst (sqL_of ho) .nil, shaped_ints _, by rfl, _, rfl, ?_⟩
    rw [eqv_ints_nil]
    refine ifDn (fun hne => ?_) (fun he => ?_)
    · obtain ⟨r, gs', rfl⟩ : ∃ r gs', gs = r :: gs' := by
        cases gs with
        | nil => exact absurd rfl hne
        | cons r gs' => exact ⟨r, gs', rfl⟩
      walk_at "go"
      refine ⟨w, .ref g, rfl, dg_great hw, ?_⟩
      refine ⟨Or.inl ⟨rfl, _, sqL_of hg⟩, ?_⟩
      walk_at "go"
      refine ⟨_, _, 0, 0, .int r, rfl, rfl, hg, by decide, by decide, by rw [List.length_map, List.length_cons]; exact seq_zero _, rfl, ?_⟩
      have hg2 : (upd H1 g (.lst (((r :: gs').map V.int).eraseIdx 0))) g = some (.lst (gs'.map V.int)) := upd_same
      have hw2 : (upd H1 g (.lst (((r :: gs').map V.int).eraseIdx 0))) w = _ := (upd_ne e1).trans hw
      have hc2 : (upd H1 g (.lst (((r :: gs').map V.int).eraseIdx 0))) c = _ := (upd_ne e2).trans hc
      have s2 : Go w g H (upd H1 g (.lst (((r :: gs').map V.int).eraseIdx 0))) := fun a x n1 n2 e => by
        rw [upd_ne n2]
        exact s1 _ _ e
      generalize upd H1 g (.lst (((r :: gs').map V.int).eraseIdx 0)) = H2 at hg2 hw2 hc2 s2
      walk_at "go"
      refine ifD (fun ge => ?_) (fun nge => ?_)
      · walk_at "go"
        refine ⟨w, .ref g, rfl, dg_great hw2, ?_⟩
        refine ⟨Or.inl ⟨rfl, _, sqL_of hg2⟩, ?_⟩
        walk_at "go"
        refine ⟨g, gs'.map V.int, 0, .int (r / n), rfl, rfl, hg2, small1000 (by rw [List.length_map]; rw [List.length_cons] at hgs; omega), by decide, by decide, ?_⟩
        have hg3 : (upd H2 g (.lst ((gs'.map V.int).take (0 : Int).toNat ++ [V.int (r / n)] ++ (gs'.map V.int).drop (0 : Int).toNat))) g = some (.lst (((r / n) :: gs').map V.int)) := upd_same
        have hw3 : (upd H2 g (.lst ((gs'.map V.int).take (0 : Int).toNat ++ [V.int (r / n)] ++ (gs'.map V.int).drop (0 : Int).toNat))) w = _ := (upd_ne e1).trans hw2
        have hc3 : (upd H2 g (.lst ((gs'.map V.int).take (0 : Int).toNat ++ [V.int (r / n)] ++ (gs'.map V.int).drop (0 : Int).toNat))) c = _ := (upd_ne e2).trans hc2
        have s3 : Go w g H (upd H2 g (.lst ((gs'.map V.int).take (0 : Int).toNat ++ [V.int (r / n)] ++ (gs'.map V.int).drop (0 : Int).toNat))) := fun a x n1 n2 e => by
          rw [upd_ne n2]
          exact s2 _ _ n1 n2 e
        generalize upd H2 g (.lst ((gs'.map V.int).take (0 : Int).toNat ++ [V.int (r / n)] ++ (gs'.map V.int).drop (0 : Int).toNat)) = H3 at hg3 hw3 hc3 s3
        walk_at "go"
        exact q _ _ s3 ⟨c, _, cs, M, k, e1, e2, e3, hw3, hg3, hc3, h0, by rw [List.length_cons] at hgs ⊢; omega, hcs⟩ (Int.emod_nonneg _ (by omega)) (Int.emod_lt_of_pos _ n0)
      · walk_at "go"
        exact q _ _ s2 ⟨c, _, cs, M, k, e1, e2, e3, hw2, hg2, hc2, h0, by rw [List.length_cons] at hgs; omega, hcs⟩ (Int.emod_nonneg _ (by omega)) (Int.emod_lt_of_pos _ n0)
    · subst he
      walk_at "go"
      refine ⟨w, .int k, rfl, dg_drawn hw, ?_⟩
      walk_at "go"
      refine ⟨_, DPut.k (k := Sum.inr "drawn") hw (by show 4 < sizeLine; decide), ?_⟩
      rw [kput]
      have hw2 : (upd H1 w (.dK (dkv "drawn" g c M (k + 1)))) w = some (.dK (dkv "drawn" g c M (k + 1))) := upd_same
      have hg2 : (upd H1 w (.dK (dkv "drawn" g c M (k + 1)))) g = _ := (upd_ne e1.symm).trans hg
      have hc2 : (upd H1 w (.dK (dkv "drawn" g c M (k + 1)))) c = _ := (upd_ne e3).trans hc
      have s2 : Go w g H (upd H1 w (.dK (dkv "drawn" g c M (k + 1)))) := fun a x n1 n2 e => by
        rw [upd_ne n1]
        exact s1 _ _ e
      generalize upd H1 w (.dK (dkv "drawn" g c M (k + 1))) = H2 at hg2 hw2 hc2 s2
      have hm : ((k + 1) % (((cs.map V.int).length : Nat) : Int)).toNat < cs.length := by
        rw [List.length_map]
        have h1 := Int.emod_nonneg (k + 1) (show (cs.length : Int) ≠ 0 by omega)
        have h2 := Int.emod_lt_of_pos (k + 1) (show 0 < (cs.length : Int) by omega)
        omega
      obtain ⟨x, hx⟩ : ∃ x, cs[((k + 1) % (((cs.map V.int).length : Nat) : Int)).toNat]? = some x := ⟨_, List.getElem?_eq_getElem hm⟩
      walk_at "go"
      refine ⟨w, .int (k + 1), rfl, dg_drawn hw2, ?_⟩
      walk_at "go"
      refine ⟨w, .ref c, rfl, dg_cells hw2, ?_⟩
      walk_at "go"
      refine ⟨w, .ref c, rfl, dg_cells hw2, ?_⟩
      walk_at "go"
      refine go_ixLi (xs := cs.map V.int) (v := .int x) hc2 (j := ((k + 1) % (((cs.map V.int).length : Nat) : Int)).toNat) ?_ (by rw [List.getElem?_map, hx]; rfl) ?_
      · rw [Int.toNat_of_nonneg (Int.emod_nonneg _ (by rw [List.length_map]; omega))]
      walk_at "go"
      refine ⟨w, .int M, rfl, dg_whole hw2, ?_⟩
      walk_at "go"
      exact q _ _ s2 ⟨c, [], cs, M, k + 1, e1, e2, e3, hw2, hg2, hc2, h0, hgs, hcs⟩ (Int.emod_nonneg _ (by omega)) (Int.emod_lt_of_pos _ n0)
/-- one of the items -/
def spPick : Sp := fun vs H Q _ => ∃ (w g l : Addr) (xs : List V), vs = [.ref w, .ref l] ∧ Dk w g H ∧ (At w g H l (.lst xs) ∨ At w g H l (.tup xs)) ∧ 0 < xs.length ∧ xs.length < 1000000 ∧
  ∀ x H', x ∈ xs → Go w g H H' → Dk w g H' → Q x H'
theorem ok_pick : FnOk P wd K mg base CX0 2 T.a_pick T.d_pick ["_law_deck_here", "_law_row"] spPick := by
  have G_draw : FnOk P wd K mg base CX0 1 T.a_draw T.d_draw ["_law_deck_here", "_law_size"] spDraw := ok_draw T
  refine T.F_pick.ok sc_pick (fun vs H Q E h => ?_) (fun cdv A outer s H vs Q E hr h => ?_)
  · obtain ⟨w, g, l, xs, rfl, _⟩ := h
    rfl
  · obtain ⟨w, g, l, xs, rfl, W, L, l0, l1, q⟩ := h
    refine ⟨_, (pss_one (ps_ret (pe_ix ix_seq (pv 1) (pe_call G_draw hr rfl T.g_draw T.F_draw.kp (b_draw T) .nil pass0 (pa_cons (pv 0) (pa_cons (pe_callB call_len_seq rfl T.n_len PySem.boot_len (pa_cons (pv 1) pa_nil)) pa_nil))) (fun _ _ => rfl)))), ?_⟩
    rcases L with L | L
    · have hl := L.at_
      walk_at "go"
      refine ⟨w, g, _, rfl, W, by omega, by omega, fun d H' s1 W1 d0 d1 => ?_⟩
      have hl1 := (L.go s1).at_
      obtain ⟨x, hx⟩ : ∃ x, xs[d.toNat]? = some x := ⟨_, List.getElem?_eq_getElem (by omega)⟩
      refine .inl (go_ixLi hl1 (j := d.toNat) (by omega) hx ?_)
      exact q x H' (List.mem_of_getElem? hx) s1 W1
    · have hl := L.at_
      walk_at "go"
      refine ⟨l, xs, rfl, .inr (sqT_of hl), ?_⟩
      walk_at "go"
      refine ⟨w, g, _, rfl, W, by omega, by omega, fun d H' s1 W1 d0 d1 => ?_⟩
      have hl1 := (L.go s1).at_
      obtain ⟨x, hx⟩ : ∃ x, xs[d.toNat]? = some x := ⟨_, List.getElem?_eq_getElem (by omega)⟩
      have e : d = ((d.toNat : Nat) : Int) := by omega
      rw [e]
      refine .inr (.inl (go_ixT hl1 (j := d.toNat) hx ?_))
      exact q x H' (List.mem_of_getElem? hx) s1 W1
def spFar : Sp := fun vs H Q _ => ∃ (w g : Addr) (m : Int), vs = [.ref w, .int m] ∧ Dk w g H ∧ 0 ≤ m ∧
  ∀ (d : Int) H', Go w g H H' → Dk w g H' → 0 ≤ d → d ≤ m → Q (.int d) H'
theorem ok_far : FnOk P wd K mg base CX0 2 T.a_far T.d_far ["_law_deck_here", "_law_most"] spFar := by
  have G_draw : FnOk P wd K mg base CX0 1 T.a_draw T.d_draw ["_law_deck_here", "_law_size"] spDraw := ok_draw T
  refine T.F_far.ok sc_far (fun vs H Q E h => ?_) (fun cdv A outer s H vs Q E hr h => ?_)
  · obtain ⟨w, g, m, rfl, _⟩ := h
    rfl
  · obtain ⟨w, g, m, rfl, W, m0, q⟩ := h
    refine ⟨_, (pss_cons (ps_set (i := 2) sc_far.nd rfl (Or.inl rfl) pe_int)
      (pss_cons (ps_for PassesOwn.never rfl (pi_range1 rfl T.n_range (pa_cons pe_int pa_nil)) (pg_name (i := 3) sc_far.nd rfl (Or.inl rfl)) (pss_one (ps_set (i := 2) sc_far.nd rfl (Or.inl rfl) (pe_op op_add (pe_op op_mul pe_int (pv 2)) (pe_call G_draw hr rfl T.g_draw T.F_draw.kp (b_draw T) .nil pass0 (pa_cons (pv 0) (pa_cons pe_int pa_nil)))))))
      (pss_one (ps_ret (pe_op op_mod (pe_callTy call_int1 rfl T.n_int (by decide +kernel) (pa_cons (pv 2) pa_nil)) (pe_op op_add (pv 1) pe_int)))))), ?_⟩
    walk_at "go"
    refine for_range (lo := 0) (n := 8) (fun i σ H2 => ∃ (f : Int) (y3 : Option V), σ = [some (.ref w), some (.int m), some (.int f), y3] ∧ Dk w g H2 ∧ Go w g H H2) ⟨_, _, rfl, W, Go.refl⟩ (fun i σ H2 hi px => ?_) (fun σ H2 px => ?_)
    · obtain ⟨f, y3, rfl, W2, S⟩ := px
      walk_at "go"
      refine ⟨w, g, _, rfl, W2, by omega, by omega, fun d H3 s3 W3 d0 d1 => ?_⟩
      walk_at "go"
      exact S.trans s3
    · obtain ⟨f, y3, rfl, W2, S⟩ := px
      walk_at "go"
      have h1 := Int.emod_nonneg f (b := m + 1) (by omega)
      have h2 := Int.emod_lt_of_pos f (b := m + 1) (by omega)
      exact q _ H2 S W2 h1 (by omega)
def spDiv : Sp := fun vs H Q _ => ∃ (a b : Nat), vs = [.int a, .int b] ∧ Q (.int (Nat.gcd a b : Nat)) H
theorem ok_divisor : FnOk P wd K mg base CX0 1 T.a_divisor T.d_divisor ["_law_left", "_law_right"] spDiv := by
  refine T.F_divisor.ok sc_divisor (fun vs H Q E h => ?_) (fun cdv A outer s H vs Q E hr h => ?_)
  · obtain ⟨a, b, rfl, _⟩ := h
    rfl
  · obtain ⟨a, b, rfl, q⟩ := h
    refine ⟨_, (pss_cons (ps_while PassesOwn.never (pt_cmpR op_ne (pv 1) pe_int (nomark _)) (pss_one (ps_par (i := 0) (j := 1) rfl sc_divisor.nd rfl rfl (by decide) rfl rfl (pa_cons (pv 1) (pa_cons (pe_op op_mod (pe_callTy call_int1 rfl T.n_int (by decide +kernel) (pa_cons (pv 0) pa_nil)) (pv 1)) pa_nil)) rfl)))
      (pss_one (ps_ret (pv 0)))), ?_⟩
    walk_at "go"
    refine ⟨fun m σ H2 => ∃ x y : Nat, σ = [some (.int x), some (.int y)] ∧ H2 = H ∧ m = y ∧ Nat.gcd x y = Nat.gcd a b, ⟨b, a, b, rfl, rfl, rfl, rfl⟩, fun m σ H2 p => ?_⟩
    obtain ⟨x, y, rfl, rfl, rfl, hg⟩ := p
    walk_at "go"
    refine ifDn (fun hne => ?_) (fun he => ?_)
    · have y0 : 0 < m := by
        rcases Nat.eq_zero_or_pos m with z | z
        · exact absurd (by rw [z]; rfl) hne
        · exact z
      refine ⟨fun σ' H' => σ' = [some (.int m), some (.int ((x % m : Nat) : Int))] ∧ H' = H2, fun σ' H' p => ?_, ?_⟩
      · obtain ⟨rfl, rfl⟩ := p
        refine ⟨x % m, Nat.mod_lt _ y0, m, x % m, rfl, rfl, rfl, ?_⟩
        rw [← hg, Nat.gcd_comm m, ← Nat.gcd_rec, Nat.gcd_comm]
      · walk_at "go"
        exact rfl
    · have e0 : m = 0 := by
        have := V.int.inj he
        omega
      subst e0
      rw [Nat.gcd_zero_right] at hg
      walk_at "go"
      rw [hg]
      exact q
end
set_option pp.deepTerms false
set_option pp.deepTerms.threshold 5
section
variable {P : Program} {wd : World} {K : PySem.W.Frag} {mg : Str → Option Value} {base : Heap} (T : Tp K mg)
/-- a watch at a -/
structure Wt (H : Hp) (a : Addr) (f t : Nat) : Prop where
  at_ : H a = some (.tup [.int f, .int t])
  f2 : f ≤ 200
  t0 : 1 ≤ t
  t6 : t ≤ 60
theorem Wt.same {H H' : Hp} {a : Addr} {f t : Nat} (x : Wt H a f t) (s : Same H H') : Wt H' a f t := ⟨s _ _ x.at_, x.f2, x.t0, x.t6⟩
theorem Wt.go {w g a : Addr} {H H' : Hp} {f t : Nat} (x : Wt H a f t) (W : Dk w g H) (s : Go w g H H') : Wt H' a f t := ⟨((W.tup x.at_).go s).at_, x.f2, x.t0, x.t6⟩
/-- a lot of watches at L -/
structure Lot (H : Hp) (L : Addr) (as : List Addr) (ws : List (Nat × Nat)) : Prop where
  at_ : H L = some (.tup (as.map V.ref))
  len : as.length = ws.length
  l1 : 1 ≤ ws.length
  l9 : ws.length ≤ 9
  each : ∀ (i : Nat) (a : Addr), as[i]? = some a → ∃ f t, ws[i]? = some (f, t) ∧ Wt H a f t
theorem Lot.same {H H' : Hp} {L : Addr} {as : List Addr} {ws : List (Nat × Nat)} (x : Lot H L as ws) (s : Same H H') : Lot H' L as ws := ⟨s _ _ x.at_, x.len, x.l1, x.l9, fun i a h => by
  obtain ⟨f, t, e, y⟩ := x.each i a h
  exact ⟨f, t, e, y.same s⟩⟩
theorem Lot.go {w g : Addr} {H H' : Hp} {L : Addr} {as : List Addr} {ws : List (Nat × Nat)} (x : Lot H L as ws) (W : Dk w g H) (s : Go w g H H') : Lot H' L as ws := ⟨((W.tup x.at_).go s).at_, x.len, x.l1, x.l9, fun i a h => by
  obtain ⟨f, t, e, y⟩ := x.each i a h
  exact ⟨f, t, e, y.go W s⟩⟩
theorem vi_dec (i j : Int) : decide (V.int i = V.int j) = decide (i = j) := decide_eq_decide.mpr ⟨fun z => V.int.inj z, fun z => by rw [z]⟩
/-- whether the watch goes -/
def gB (f t : Nat) (n : Int) : Bool := decide ((f : Int) ≤ n) && decide ((n - (f : Int)) % (t : Int) = 0)
def spGoes : Sp := fun vs H Q _ => ∃ (a : Addr) (f t : Nat) (n : Int), vs = [.ref a, .int n] ∧ Wt H a f t ∧ Q (.bl (gB f t n)) H
theorem ok_goes : FnOk P wd K mg base CX0 1 T.a_goes T.d_goes ["watch", "number"] spGoes := by
  refine T.F_goes.ok sc_goes (fun vs H Q E h => ?_) (fun cdv A outer s H vs Q E hr h => ?_)
  · obtain ⟨a, f, t, n, rfl, _⟩ := h
    rfl
  · obtain ⟨a, f, t, n, rfl, x, q⟩ := h
    refine ⟨_, (pss_cons (ps_asg (pv 0) (pg_tup rfl (pgs_cons (pg_name (i := 2) sc_goes.nd rfl (Or.inl rfl)) (pgs_cons (pg_name (i := 3) sc_goes.nd rfl (Or.inl rfl)) pgs_nil))))
      (pss_one (ps_ret (pe_and (pe_cmpR op_ge (pv 1) (pv 2) (nomark _)) (pe_one (pe_cmpR op_eq (pe_op op_mod (pe_op op_sub (pv 1) (pv 2)) (pv 3)) pe_int (nomark _))))))), ?_⟩
    have hx := x.at_
    have t0 := x.t0
    walk_at "go"
    unfold gB at q
    refine ifD (fun c => ?_) (fun c => ?_)
    · rw [decide_eq_true c, Bool.true_and] at q
      walk_at "go"
      rw [vi_dec]
      exact q
    · rw [decide_eq_false c, Bool.false_and] at q
      exact q
theorem ok_lgoes : FnOk P wd K mg base CX0 1 T.a_lgoes T.d_lgoes ["_law_watch", "_law_at"] spGoes := by
  refine T.F_lgoes.ok sc_lgoes (fun vs H Q E h => ?_) (fun cdv A outer s H vs Q E hr h => ?_)
  · obtain ⟨a, f, t, n, rfl, _⟩ := h
    rfl
  · obtain ⟨a, f, t, n, rfl, x, q⟩ := h
    refine ⟨_, (pss_one (ps_ret (pe_and (pe_cmpR op_ge (pv 1) (pe_ix ix_tup (pv 0) pe_int (fun _ _ => rfl)) (nomark _)) (pe_one (pe_cmpR op_eq (pe_op op_mod (pe_callTy call_int1 rfl T.n_int (by decide +kernel) (pa_cons (pe_op op_sub (pv 1) (pe_ix ix_tup (pv 0) pe_int (fun _ _ => rfl))) pa_nil)) (pe_ix ix_tup (pv 0) pe_int (fun _ _ => rfl))) pe_int (nomark _)))))), ?_⟩
    have hx := x.at_
    have t0 := x.t0
    walk_at "go"
    unfold gB at q
    refine ifD (fun c => ?_) (fun c => ?_)
    · rw [decide_eq_true c, Bool.true_and] at q
      walk_at "go"
      rw [vi_dec]
      exact q
    · rw [decide_eq_false c, Bool.false_and] at q
      exact q
/-- the places below n -/
def plw (f : Nat → Bool) (n : Nat) : List Nat := (List.range n).filter f
theorem plw_succ (f : Nat → Bool) (n : Nat) : plw f (n + 1) = plw f n ++ (if f n = true then [n] else []) := by
  unfold plw
  rw [List.range_succ, List.filter_append]
  congr 1
  cases e : f n <;> simp [e]
/-- whether the watch at this place goes -/
def gP (ws : List (Nat × Nat)) (n : Int) (j : Nat) : Bool := match ws[j]? with
  | some x => gB x.1 x.2 n
  | none => false
/-- the places of the watches that go -/
def hs (ws : List (Nat × Nat)) (n : Int) : List Nat := plw (gP ws n) ws.length
def spHands : Sp := fun vs H Q _ => ∃ (L : Addr) (as : List Addr) (ws : List (Nat × Nat)) (n : Int), vs = [.ref L, .int n] ∧ Lot H L as ws ∧
  ∀ p H', Same H H' → H' p = some (.tup ((hs ws n).map fun k => V.int (k : Nat))) → Q (.ref p) H'
theorem ok_hands : FnOk P wd K mg base CX0 2 T.a_hands T.d_hands ["watches", "number"] spHands := by
  have G_goes : FnOk P wd K mg base CX0 1 T.a_goes T.d_goes ["watch", "number"] spGoes := ok_goes T
  refine T.F_hands.ok sc_hands (fun vs H Q E h => ?_) (fun cdv A outer s H vs Q E hr h => ?_)
  · obtain ⟨L, as, ws, n, rfl, _⟩ := h
    rfl
  · obtain ⟨L, as, ws, n, rfl, x, q⟩ := h
    refine ⟨_, (pss_one (ps_ret (pe_callTy call_tuple_of rfl T.n_tuple (by decide +kernel) (pa_cons (pe_lc (own := [("place", 2), ("watch", 3)]) (g := gTup K 2 (gCons (gName 2) (gCons (gName 3) gNil))) rfl sc_hands.nd (pi_enumT rfl T.n_enumerate (pa_cons (pv 0) pa_nil)) (blkOk_by (N := nm_hands) (sc := defScope s_hands) (by decide +kernel)) (fun _ _ _ _ _ => pg_tup rfl (pgs_cons (pg_name (i := 2) sc_hands.nd rfl (Or.inl rfl) (Or.inr rfl)) (pgs_cons (pg_name (i := 3) sc_hands.nd rfl (Or.inl rfl) (Or.inr rfl)) pgs_nil))) (fun _ _ _ _ _ => pts_one (pt_val (pe_call G_goes hr rfl T.g_goes T.F_goes.kp (b_goes T) .nil pass0 (pa_cons (pv 3) (pa_cons (pv 1) pa_nil))))) (fun _ _ _ _ _ => (pv 2))) pa_nil)))), ?_⟩
    walk_at "go"
    refine ⟨L, _, rfl, sqT_of x.at_, ?_⟩
    intro D nD
    have l9 := x.l9
    refine lc_enumT (xs := as.map V.ref) (fun i H' => H' D = some (.lst ((plw (gP ws n) i).map fun k => V.int (k : Nat))) ∧ Same H H' ∧ i ≤ 9) ⟨upd_same, same_new nD, by omega⟩ (fun i H' px => sqT_of (px.2.1 _ _ x.at_)) (fun i v T' H' hv px hT => ?_) (fun H' px => ?_)
    · obtain ⟨hD, S, i9⟩ := px
      have il : i < (as.map V.ref).length := (List.getElem?_eq_some_iff.mp hv).1
      rw [List.length_map, x.len] at il
      obtain ⟨a, ha, rfl⟩ : ∃ a, as[i]? = some a ∧ v = .ref a := by
        rw [List.getElem?_map] at hv
        cases e : as[i]? with
        | none => rw [e] at hv; cases hv
        | some a => rw [e] at hv; exact ⟨a, rfl, (Option.some.inj hv).symm⟩
      obtain ⟨f, t, hw, y⟩ := x.each i a ha
      have S1 : Same H (upd H' T' (HO.tup [V.int (i : Nat), V.ref a])) := S.trans (same_new hT)
      have hTup : (upd H' T' (HO.tup [V.int (i : Nat), V.ref a])) T' = some (HO.tup [V.int (i : Nat), V.ref a]) := upd_same
      have hD1 : (upd H' T' (HO.tup [V.int (i : Nat), V.ref a])) D = some (.lst ((plw (gP ws n) i).map fun k => V.int (k : Nat))) := by
        rw [upd_ne (ne_of_none hD hT)]
        exact hD
      have y1 := y.same S1
      have lp : (plw (gP ws n) i).length ≤ i := by
        unfold plw
        exact Nat.le_trans (List.length_filter_le _ _) (by rw [List.length_range]; exact Nat.le_refl _)
      have eg : gP ws n i = gB f t n := by unfold gP; rw [hw]
      generalize upd H' T' (HO.tup [V.int (i : Nat), V.ref a]) = H2 at hTup hD1 S1 y1
      walk_at "go"
      refine ⟨a, f, t, n, rfl, y1, ?_⟩
      refine ⟨_, rfl, ?_⟩
      refine ifB (fun e => ?_) (fun e => ?_)
      · walk_at "go"
        refine ⟨_, hD1, Nat.lt_of_le_of_lt (by rw [List.length_map]; exact Nat.le_trans lp i9) (by decide), ?_, same_mut S1 nD, by omega⟩
        rw [upd_same, plw_succ, if_pos (by rw [eg, e]), List.map_append]
        rfl
      · refine ⟨?_, S1, by omega⟩
        rw [plw_succ, if_neg (by rw [eg, e]; exact Bool.false_ne_true), List.append_nil]
        exact hD1
    · obtain ⟨hD, S, _⟩ := px
      rw [List.length_map, x.len] at hD
      refine ⟨D, _, rfl, .inl ⟨sqL_of hD, fun p np => ?_⟩⟩
      exact q p _ (S.trans (same_new np)) upd_same
open Meet
/-- what meeting tells -/
def MeetV (f1 t1 f2 t2 : Nat) (v : V) : Prop := (v = .non ∧ ∀ n, ¬ Both f1 t1 f2 t2 n) ∨ ∃ n : Nat, v = .int (n : Nat) ∧ IsMeet f1 t1 f2 t2 n ∧ n ≤ 5000
theorem meet_one {f1 t1 f2 t2 : Nat} {v v' : V} (a : MeetV f1 t1 f2 t2 v) (b : MeetV f1 t1 f2 t2 v') : v = v' := by
  rcases a with ⟨rfl, na⟩ | ⟨n, rfl, xa, _⟩
  · rcases b with ⟨rfl, _⟩ | ⟨m, rfl, xb, _⟩
    · rfl
    · exact absurd xb.both (na m)
  · rcases b with ⟨rfl, nb⟩ | ⟨m, rfl, xb, _⟩
    · exact absurd xa.both (nb n)
    · rw [xa.uniq xb]
theorem MeetV.symm {f1 t1 f2 t2 : Nat} {v : V} (a : MeetV f1 t1 f2 t2 v) : MeetV f2 t2 f1 t1 v := by
  rcases a with ⟨rfl, na⟩ | ⟨n, rfl, xa, h⟩
  · exact .inl ⟨rfl, fun n b => na n b.symm⟩
  · exact .inr ⟨n, rfl, xa.symm, h⟩
theorem rg_ok {s t m : Nat} (h1 : s ≤ 10000) (t0 : 1 ≤ t) (t6 : t ≤ 60) (m0 : 1 ≤ m) (m6 : m ≤ 60) : RgC (s : Int) ((s : Int) + (t : Int) * (m : Int)) (t : Int) m := by
  have hm : t * m ≤ 3600 := Nat.mul_le_mul t6 m6
  have hm1 : 1 ≤ t * m := Nat.mul_pos t0 m0
  have ez : Builtin.Range.rangeSize (s : Int) ((s : Int) + (t : Int) * (m : Int)) (t : Int) = (m : Int) := by
    unfold Builtin.Range.rangeSize
    rw [if_pos (by omega), if_pos (by rw [← Int.natCast_mul]; omega)]
    have e1 : (s : Int) + (t : Int) * (m : Int) - (s : Int) - 1 = (((t * (m - 1) + (t - 1) : Nat)) : Int) := by
      have : t * (m - 1) + t = t * m := by rw [← Nat.mul_succ]; congr 1; omega
      rw [← Int.natCast_mul]
      omega
    rw [e1, ← Int.natCast_ediv, Nat.mul_add_div (by omega), Nat.div_eq_of_lt (by omega : t - 1 < t)]
    omega
  refine ⟨by omega, by omega, ?_, ez⟩
  unfold Builtin.Range.small
  rw [ez]
  rw [← Int.natCast_mul]
  generalize t * m = z at hm hm1
  simp only [Builtin.Range.rangeFitsLong, Bool.and_eq_true, Bool.or_eq_true, decide_eq_true_eq, beq_iff_eq]
  refine ⟨⟨⟨⟨by omega, by omega⟩, by omega⟩, by omega⟩, .inr ?_⟩
  rw [if_pos (by omega)]
  simp only [Bool.and_eq_true, decide_eq_true_eq]
  omega
theorem max_if (f1 f2 : Nat) : (if (f2 : Int) > (f1 : Int) then (f2 : Int) else (f1 : Int)) = ((max f1 f2 : Nat) : Int) := by
  split <;> omega
theorem start_ok {f1 f2 t1 : Nat} (h1 : f1 ≤ 200) (h2 : f2 ≤ 200) (t0 : 1 ≤ t1) (t6 : t1 ≤ 60) :
    ∃ s : Nat, ((max f1 f2 : Nat) : Int) + ((f1 : Int) - ((max f1 f2 : Nat) : Int)) % (t1 : Int) = (s : Int) ∧ IsStart f1 t1 (max f1 f2) s ∧ s ≤ 260 := by
  obtain ⟨L, hL⟩ : ∃ L, L = max f1 f2 := ⟨_, rfl⟩
  have hl1 : f1 ≤ L := by rw [hL]; exact Nat.le_max_left ..
  have hl2 : L ≤ 200 := by omega
  rw [← hL]
  have d0 := Int.emod_nonneg ((f1 : Int) - (L : Int)) (b := (t1 : Int)) (by omega)
  have d1 := Int.emod_lt_of_pos ((f1 : Int) - (L : Int)) (b := (t1 : Int)) (by omega)
  have d2 := Int.mul_ediv_add_emod ((f1 : Int) - (L : Int)) (t1 : Int)
  generalize ((f1 : Int) - (L : Int)) % (t1 : Int) = d at d0 d1 d2
  generalize ((f1 : Int) - (L : Int)) / (t1 : Int) = q at d2
  have q0 : q ≤ 0 := by
    by_cases c : q ≤ 0
    · exact c
    · have := Int.mul_le_mul (a := 1) (b := 1) (c := (t1 : Int)) (d := q) (by omega) (by omega) (by omega) (by omega)
      omega
  obtain ⟨r, hr⟩ : ∃ r : Nat, -q = r := ⟨(-q).toNat, by omega⟩
  have hq : q = -(r : Int) := by omega
  subst hq
  refine ⟨L + d.toNat, by omega, ⟨by omega, by omega, r, ?_⟩, by omega⟩
  rw [Int.mul_neg, ← Int.natCast_mul, Nat.mul_comm] at d2
  omega
theorem gB_iff {f t n : Nat} (h : f ≤ n) : gB f t (n : Int) = true ↔ (n - f) % t = 0 := by
  unfold gB
  rw [decide_eq_true (by omega : (f : Int) ≤ (n : Int)), Bool.true_and, decide_eq_true_iff]
  rw [show (n : Int) - (f : Int) = ((n - f : Nat) : Int) by omega, ← Int.natCast_emod]
  omega
def spMeet : Sp := fun vs H Q _ => ∃ (a b : Addr) (f1 t1 f2 t2 : Nat), vs = [.ref a, .ref b] ∧ Wt H a f1 t1 ∧ Wt H b f2 t2 ∧ ∀ v, MeetV f1 t1 f2 t2 v → Q v H
theorem ok_meeting : FnOk P wd K mg base CX0 2 T.a_meeting T.d_meeting ["one", "other"] spMeet := by
  have G_goes : FnOk P wd K mg base CX0 1 T.a_goes T.d_goes ["watch", "number"] spGoes := ok_goes T
  refine T.F_meeting.ok sc_meeting (fun vs H Q E h => ?_) (fun cdv A outer s H vs Q E hr h => ?_)
  · obtain ⟨a, b, f1, t1, f2, t2, rfl, _⟩ := h
    rfl
  · obtain ⟨a, b, f1, t1, f2, t2, rfl, x, y, q⟩ := h
    refine ⟨_, (pss_cons (ps_asg (pv 0) (pg_tup rfl (pgs_cons (pg_name (i := 2) sc_meeting.nd rfl (Or.inl rfl)) (pgs_cons (pg_name (i := 3) sc_meeting.nd rfl (Or.inl rfl)) pgs_nil))))
      (pss_cons (ps_set (i := 4) sc_meeting.nd rfl (Or.inl rfl) (pe_callB (call_max2 rfl) rfl T.n_max (by decide +kernel) (pa_cons (pv 2) (pa_cons (pe_ix ix_tup (pv 1) pe_int (fun _ _ => rfl)) pa_nil))))
      (pss_cons (ps_aug (i := 4) sc_meeting.nd rfl (Or.inl rfl) (pe_op op_mod (pe_op op_sub (pv 2) (pv 4)) (pv 3)) ip_add)
      (pss_cons (ps_for PassesOwn.never rfl (pi_range3 rfl T.n_range (pa_cons (pv 4) (pa_cons (pe_op op_add (pv 4) (pe_op op_mul (pv 3) (pe_ix ix_tup (pv 1) pe_int (fun _ _ => rfl)))) (pa_cons (pv 3) pa_nil)))) (pg_name (i := 5) sc_meeting.nd rfl (Or.inl rfl)) (pss_one (ps_if (pt_val (pe_call G_goes hr rfl T.g_goes T.F_goes.kp (b_goes T) .nil pass0 (pa_cons (pv 1) (pa_cons (pv 5) pa_nil)))) (pss_one (ps_ret (pv 5))) pss_nil)))
      (pss_one (ps_ret pe_non)))))), ?_⟩
    have hx := x.at_
    have hy := y.at_
    have t0 := x.t0
    have u0 := y.t0
    obtain ⟨st, es, xs, s2⟩ := start_ok x.f2 y.f2 x.t0 x.t6
    have cm : CMul (t1 : Int) (t2 : Int) := .inl ⟨by omega, by have := x.t6; omega⟩
    rw [← max_if] at es
    walk_at "go"
    refine ⟨(st : Int), (st : Int) + (t1 : Int) * (t2 : Int), (t1 : Int), t2, ?_, rg_ok (by omega) x.t0 x.t6 y.t0 y.t6, ?_⟩
    · show [V.int (_ + _), V.int (_ + _ + _), V.int _] = _
      rw [es]
    have hge := xs.ge
    have hm2 := Nat.le_max_right f1 f2
    have num : ∀ i : Nat, (st : Int) + (i : Nat) * (t1 : Int) = ((st + i * t1 : Nat) : Int) := fun i => by rw [Int.natCast_add, Int.natCast_mul]
    refine for_rangeC (lo := (st : Int)) (c := (t1 : Int)) (n := t2) (fun i σ H2 => ∃ y5 : Option V, σ = [some (.ref a), some (.ref b), some (.int f1), some (.int t1), some (.int st), y5] ∧ H2 = H ∧ ∀ k, k < i → ¬ (st + k * t1 - f2) % t2 = 0)
      ⟨none, ?_, rfl, fun k hk => by omega⟩ (fun i σ H2 hi px => ?_) (fun σ H2 px => ?_)
    · show [_, _, _, _, some (V.int (_ + _)), _] = _
      rw [es]
    · obtain ⟨y5, rfl, rfl, no⟩ := px
      walk_at "go"
      rw [num]
      refine ⟨b, f2, t2, _, rfl, y, ?_⟩
      walk_at "go"
      refine ifB (fun e => ?_) (fun e => ?_)
      · have yes := (gB_iff (by omega)).mp e
        have mt : i * t1 ≤ 3600 := Nat.mul_le_mul (Nat.le_of_lt (Nat.lt_of_lt_of_le hi y.t6)) x.t6
        walk_at "go"
        exact q _ (.inr ⟨st + i * t1, rfl, found x.t0 xs no yes, by omega⟩)
      · refine ⟨_, rfl, rfl, fun k hk => ?_⟩
        by_cases ek : k = i
        · subst ek
          intro z
          rw [(gB_iff (by omega)).mpr z] at e
          cases e
        · exact no k (by omega)
    · obtain ⟨y5, rfl, rfl, no⟩ := px
      walk_at "go"
      exact q .non (.inl ⟨rfl, none_at x.t0 y.t0 xs no⟩)
theorem to_val {R : V → Hp → Prop} {v v' : V} {H : Hp} (e : v = v') (h : R v' H) : R v H := e ▸ h
theorem begin_ok {f1 f2 t1 : Nat} (h1 : f1 ≤ 200) (h2 : f2 ≤ 200) (t0 : 1 ≤ t1) (t6 : t1 ≤ 60) :
    ∃ s : Nat, (f1 : Int) + (t1 : Int) * ((((max f1 f2 : Nat) : Int) - (f1 : Int) + (t1 : Int) - 1) / (t1 : Int)) = (s : Int) ∧ IsStart f1 t1 (max f1 f2) s ∧ s ≤ 260 := by
  obtain ⟨L, hL⟩ : ∃ L, L = max f1 f2 := ⟨_, rfl⟩
  have hl1 : f1 ≤ L := by rw [hL]; exact Nat.le_max_left ..
  have hl2 : L ≤ 200 := by omega
  rw [← hL]
  have e1 : (L : Int) - (f1 : Int) + (t1 : Int) - 1 = ((L - f1 + t1 - 1 : Nat) : Int) := by omega
  rw [e1, ← Int.natCast_ediv]
  obtain ⟨q, hq⟩ : ∃ q, q = (L - f1 + t1 - 1) / t1 := ⟨_, rfl⟩
  have d := Nat.mod_add_div (L - f1 + t1 - 1) t1
  have m := Nat.mod_lt (L - f1 + t1 - 1) (y := t1) (by omega)
  rw [← hq] at d ⊢
  refine ⟨f1 + t1 * q, by rw [Int.natCast_add, Int.natCast_mul], ⟨by omega, by omega, q, by rw [Nat.mul_comm]⟩, by omega⟩
theorem ok_met : FnOk P wd K mg base CX0 1 T.a_met T.d_met ["_law_left", "_law_right"] spMeet := by
  refine T.F_met.ok sc_met (fun vs H Q E h => ?_) (fun cdv A outer s H vs Q E hr h => ?_)
  · obtain ⟨a, b, f1, t1, f2, t2, rfl, _⟩ := h
    rfl
  · obtain ⟨a, b, f1, t1, f2, t2, rfl, x, y, q⟩ := h
    refine ⟨_, (pss_cons (ps_set (i := 2) sc_met.nd rfl (Or.inl rfl) (pe_callB (call_max2 rfl) rfl T.n_max (by decide +kernel) (pa_cons (pe_ix ix_tup (pv 0) pe_int (fun _ _ => rfl)) (pa_cons (pe_ix ix_tup (pv 1) pe_int (fun _ _ => rfl)) pa_nil))))
      (pss_cons (ps_set (i := 3) sc_met.nd rfl (Or.inl rfl) (pe_op op_add (pe_ix ix_tup (pv 0) pe_int (fun _ _ => rfl)) (pe_op op_mul (pe_ix ix_tup (pv 0) pe_int (fun _ _ => rfl)) (pe_op op_fdiv (pe_op op_sub (pe_op op_add (pe_op op_sub (pv 2) (pe_ix ix_tup (pv 0) pe_int (fun _ _ => rfl))) (pe_ix ix_tup (pv 0) pe_int (fun _ _ => rfl))) pe_int) (pe_ix ix_tup (pv 0) pe_int (fun _ _ => rfl))))))
      (pss_cons (ps_for PassesOwn.never rfl (pi_range1 rfl T.n_range (pa_cons (pe_ix ix_tup (pv 1) pe_int (fun _ _ => rfl)) pa_nil)) (pg_name (i := 4) sc_met.nd rfl (Or.inl rfl)) (pss_one (ps_if (pt_cmpR op_eq (pe_op op_mod (pe_callTy call_int1 rfl T.n_int (by decide +kernel) (pa_cons (pe_op op_sub (pe_op op_add (pv 3) (pe_op op_mul (pe_ix ix_tup (pv 0) pe_int (fun _ _ => rfl)) (pv 4))) (pe_ix ix_tup (pv 1) pe_int (fun _ _ => rfl))) pa_nil)) (pe_ix ix_tup (pv 1) pe_int (fun _ _ => rfl))) pe_int (nomark _)) (pss_one (ps_ret (pe_op op_add (pv 3) (pe_op op_mul (pe_ix ix_tup (pv 0) pe_int (fun _ _ => rfl)) (pv 4))))) pss_nil)))
      (pss_one (ps_ret pe_non))))), ?_⟩
    have hx := x.at_
    have hy := y.at_
    have t0 := x.t0
    have t6 := x.t6
    have u0 := y.t0
    obtain ⟨st, es, xs, s2⟩ := begin_ok x.f2 y.f2 x.t0 x.t6
    rw [← max_if] at es
    iterate 24 (walk_at "go1")
    show gName 3 (V.int (_ + _ * ((_ - _ + _ - _) / _))) _ _ _
    rw [es]
    clear es
    have b60 := y.t6
    iterate 3 (walk_at "go1")
    refine ⟨by omega, by omega, ?_⟩
    have hge := xs.ge
    have hm2 := Nat.le_max_right f1 f2
    have num : ∀ i : Nat, (st : Int) + (t1 : Int) * (i : Nat) = ((st + i * t1 : Nat) : Int) := fun i => by rw [Int.natCast_add, Int.natCast_mul, Int.mul_comm]
    refine for_range (lo := 0) (n := ((t2 : Nat) : Int).toNat) (fun i σ H2 => ∃ (y2 y4 : Option V), σ = [some (.ref a), some (.ref b), y2, some (.int st), y4] ∧ H2 = H ∧ ∀ k, k < i → ¬ (st + k * t1 - f2) % t2 = 0)
      ⟨_, none, rfl, rfl, fun k hk => by omega⟩ (fun i σ H2 hi px => ?_) (fun σ H2 px => ?_)
    · obtain ⟨y2, y4, rfl, rfl, no⟩ := px
      have i60 : i < t2 := by omega
      have mt : i * t1 ≤ 3600 := Nat.mul_le_mul (Nat.le_of_lt (Nat.lt_of_lt_of_le i60 y.t6)) x.t6
      rw [Int.zero_add]
      walk_at "go"
      rw [num, show ((st + i * t1 : Nat) : Int) - (f2 : Int) = ((st + i * t1 - f2 : Nat) : Int) by omega]
      refine ifD (fun e => ?_) (fun e => ?_)
      · have e1 : ((st + i * t1 - f2 : Nat) : Int) % (t2 : Int) = 0 := V.int.inj e
        rw [← Int.natCast_emod] at e1
        walk_at "go"
        exact q _ (.inr ⟨st + i * t1, congrArg V.int (num i), found x.t0 xs no (by omega), by omega⟩)
      · refine ⟨_, _, rfl, rfl, fun k hk => ?_⟩
        by_cases ek : k = i
        · subst ek
          refine fun z => e ?_
          have e1 : ((st + k * t1 - f2 : Nat) : Int) % (t2 : Int) = 0 := by rw [← Int.natCast_emod, z]; rfl
          show V.int (_ % _) = _
          rw [e1]
        · exact no k (by omega)
    · obtain ⟨y2, y4, rfl, rfl, no⟩ := px
      rw [Int.toNat_natCast] at no
      walk_at "go"
      exact q .non (.inl ⟨rfl, none_at x.t0 y.t0 xs no⟩)
end
set_option pp.deepTerms false
set_option pp.deepTerms.threshold 5
section
variable {P : Program} {wd : World} {K : PySem.W.Frag} {mg : Str → Option Value} {base : Heap} (T : Tp K mg)
theorem go_upd {w g D : Addr} {H H' : Hp} {o : HO} (S : Go w g H H') (h : H D = none) : Go w g H (upd H' D o) := fun x u h1 h2 e => by
  rw [upd_ne (ne_of_none e h)]
  exact S x u h1 h2 e
/-- a list of objects is written -/
theorem dk_upd {w g D : Addr} {H : Hp} {o : HO} {as : List Addr} (W : Dk w g H) (h : H D = some (.lst (as.map V.ref))) (nw : D ≠ w) (ng : D ≠ g) : Dk w g (upd H D o) := by
  obtain ⟨c, gs, cs, M, k, h1, h2, h3, h4, h5, h6, h7, h8, h9⟩ := W
  have nc : c ≠ D := fun e => by
    subst e
    rw [h] at h6
    have e2 : as.map V.ref = cs.map V.int := by
      have := Option.some.inj h6
      injection this
    cases cs with
    | nil => exact absurd h7 (by decide)
    | cons z zs =>
      cases as with
      | nil => cases e2
      | cons a as => cases e2
  exact ⟨c, gs, cs, M, k, h1, h2, h3, (upd_ne nw.symm).trans h4, (upd_ne ng.symm).trans h5, (upd_ne nc).trans h6, h7, h8, h9⟩
/-- all of them are watches -/
def AllW (H : Hp) (as : List Addr) : Prop := ∀ a, a ∈ as → ∃ f t, Wt H a f t
theorem AllW.go {w g : Addr} {H H' : Hp} {as : List Addr} (x : AllW H as) (W : Dk w g H) (s : Go w g H H') : AllW H' as := fun a h => by
  obtain ⟨f, t, y⟩ := x a h
  exact ⟨f, t, y.go W s⟩
theorem AllW.same {H H' : Hp} {as : List Addr} (x : AllW H as) (s : Same H H') : AllW H' as := fun a h => by
  obtain ⟨f, t, y⟩ := x a h
  exact ⟨f, t, y.same s⟩
theorem Wt.upd {H : Hp} {a D : Addr} {f t : Nat} {xs : List V} {o : HO} (x : Wt H a f t) (h : H D = some (.lst xs)) : Wt (upd H D o) a f t :=
  ⟨(upd_ne (ne_of x.at_ h (by intro z; cases z))).trans x.at_, x.f2, x.t0, x.t6⟩
theorem AllW.upd {H : Hp} {as : List Addr} {D : Addr} {xs : List V} {o : HO} (x : AllW H as) (h : H D = some (.lst xs)) : AllW (upd H D o) as := fun a ha => by
  obtain ⟨f, t, y⟩ := x a ha
  exact ⟨f, t, y.upd h⟩
theorem lot_ws {H : Hp} : ∀ as : List Addr, AllW H as → ∃ ws : List (Nat × Nat), as.length = ws.length ∧ ∀ (i : Nat) (a : Addr), as[i]? = some a → ∃ f t, ws[i]? = some (f, t) ∧ Wt H a f t
  | [], _ => ⟨[], rfl, fun i a h => by cases h⟩
  | a :: as, x => by
    obtain ⟨ws, l, h⟩ := lot_ws as fun b hb => x b (List.mem_cons_of_mem _ hb)
    obtain ⟨f, t, y⟩ := x a List.mem_cons_self
    refine ⟨(f, t) :: ws, by simp [l], fun i b hb => ?_⟩
    cases i with
    | zero =>
      obtain rfl := Option.some.inj hb
      exact ⟨f, t, rfl, y⟩
    | succ i => exact h i b hb
theorem mem_refs {x : V} {as : List Addr} (h : x ∈ as.map V.ref) : ∃ a ∈ as, x = .ref a := by
  obtain ⟨a, h1, h2⟩ := List.mem_map.mp h
  exact ⟨a, h1, h2.symm⟩
def spLot : Sp := fun vs H Q _ => ∃ (w g : Addr), vs = [.ref w] ∧ Dk w g H ∧
  ∀ L as ws H', Go w g H H' → Dk w g H' → Lot H' L as ws → Q (.ref L) H'
theorem ok_lot : FnOk P wd K mg base CX0 3 T.a_lot T.d_lot ["_law_deck_here"] spLot := by
  have G_draw : FnOk P wd K mg base CX0 1 T.a_draw T.d_draw ["_law_deck_here", "_law_size"] spDraw := ok_draw T
  have G_pick : FnOk P wd K mg base CX0 2 T.a_pick T.d_pick ["_law_deck_here", "_law_row"] spPick := ok_pick T
  refine T.F_lot.ok sc_lot (fun vs H Q E h => ?_) (fun cdv A outer s H vs Q E hr h => ?_)
  · obtain ⟨w, g, rfl, _⟩ := h
    rfl
  · obtain ⟨w, g, rfl, W, q⟩ := h
    refine ⟨_, (pss_cons (ps_set (i := 1) sc_lot.nd rfl (Or.inl rfl) (pe_lst pa_nil))
      (pss_cons (ps_for PassesOwn.never rfl (pi_range1 rfl T.n_range (pa_cons (pe_op op_add pe_int (pe_call G_draw (hr.mono (by decide)) rfl T.g_draw T.F_draw.kp (b_draw T) .nil pass0 (pa_cons (pv 0) (pa_cons pe_int pa_nil)))) pa_nil)) (pg_name (i := 2) sc_lot.nd rfl (Or.inl rfl)) (pss_cons (ps_set (i := 3) sc_lot.nd rfl (Or.inl rfl) (pe_call G_pick hr rfl T.g_pick T.F_pick.kp (b_pick T) .nil pass0 (pa_cons (pv 0) (pa_cons (pe_lst (pa_cons pe_int (pa_cons (pe_call G_draw (hr.mono (by decide)) rfl T.g_draw T.F_draw.kp (b_draw T) .nil pass0 (pa_cons (pv 0) (pa_cons pe_int pa_nil))) (pa_cons (pe_call G_draw (hr.mono (by decide)) rfl T.g_draw T.F_draw.kp (b_draw T) .nil pass0 (pa_cons (pv 0) (pa_cons pe_int pa_nil))) (pa_cons pe_int pa_nil))))) pa_nil))))
      (pss_cons (ps_expr (pe_bm PySem.F.plainAttrs_list PySem.F.slot_list_append PySem.F.type_list_append mt_append (pv 1) (pa_cons (pe_tup (pa_cons (pv 3) (pa_cons (pe_call G_pick hr rfl T.g_pick T.F_pick.kp (b_pick T) .nil pass0 (pa_cons (pv 0) (pa_cons (pe_lst (pa_cons pe_int (pa_cons (pe_op op_add pe_int (pe_call G_draw (hr.mono (by decide)) rfl T.g_draw T.F_draw.kp (b_draw T) .nil pass0 (pa_cons (pv 0) (pa_cons pe_int pa_nil)))) (pa_cons (pe_op op_add pe_int (pe_call G_draw (hr.mono (by decide)) rfl T.g_draw T.F_draw.kp (b_draw T) .nil pass0 (pa_cons (pv 0) (pa_cons pe_int pa_nil)))) (pa_cons pe_int (pa_cons pe_int pa_nil)))))) pa_nil))) pa_nil))) pa_nil)))
      (pss_one (ps_if (pt_cmpR op_eq (pe_call G_draw (hr.mono (by decide)) rfl T.g_draw T.F_draw.kp (b_draw T) .nil pass0 (pa_cons (pv 0) (pa_cons pe_int pa_nil))) pe_int (nomark _)) (pss_one (ps_asg (pe_call G_pick hr rfl T.g_pick T.F_pick.kp (b_pick T) .nil pass0 (pa_cons (pv 0) (pa_cons (pv 1) pa_nil))) (pg_sub (pv 1) (pe_un un_neg pe_int) set_list))) pss_nil)))))
      (pss_one (ps_ret (pe_callTy call_tuple_of rfl T.n_tuple (by decide +kernel) (pa_cons (pv 1) pa_nil)))))), ?_⟩
    walk_at "go"
    intro D nD
    generalize hU : upd H D _ = H1
    obtain ⟨s1, W1, aD⟩ := new_ofK W nD hU
    walk_at "go"
    refine ⟨w, g, _, rfl, W1, by omega, by omega, fun n H2 s2 W2 n0 n1 => ?_⟩
    have aD2 := aD.go s2
    iterate 2 (walk_at "go1")
    refine ⟨by omega, by omega, ?_⟩
    refine for_range (lo := 0) (n := (1 + n).toNat) (fun i σ H' => ∃ (y2 y3 : Option V) (as : List Addr), σ = [some (.ref w), some (.ref D), y2, y3] ∧ Dk w g H' ∧ Go w g H H' ∧ H' D = some (.lst (as.map V.ref)) ∧ AllW H' as ∧ as.length = i)
      ⟨_, _, [], rfl, W2, (Go.of s1).trans s2, aD2.at_, (fun a h => by cases h), rfl⟩ (fun i σ H3 hi px => ?_) (fun σ H3 px => ?_)
    · obtain ⟨y2, y3, as, rfl, W3, S3, hD, hA, hl⟩ := px
      have nw := aD.nw
      have ng := aD.ng
      walk_at "go"
      refine ⟨w, g, _, rfl, W3, by omega, by omega, fun d1 H4 s4 W4 d10 d11 => ?_⟩
      walk_at "go"
      refine ⟨w, g, _, rfl, W4, by omega, by omega, fun d2 H5 s5 W5 d20 d21 => ?_⟩
      walk_at "go"
      intro l1 nl1
      generalize hU1 : upd H5 l1 _ = H6
      obtain ⟨s6, W6, al1⟩ := new_ofK W5 nl1 hU1
      refine ⟨w, g, l1, _, rfl, W6, .inl al1, by simp, by simp, fun x H7 mx s7 W7 => ?_⟩
      obtain ⟨f, mf, rfl⟩ := mem_ints (ns := [0, d1, d2, 200]) rfl mx
      have f01 : 0 ≤ f ∧ f ≤ 200 := by
        simp at mf
        omega
      have go7 : Go w g H3 H7 := ((s4.trans s5).trans (Go.of s6)).trans s7
      have aD3 : At w g H3 D (.lst (as.map V.ref)) := ⟨nw, ng, hD⟩
      have hD7 := (aD3.go go7).at_
      have hA7 := hA.go W3 go7
      walk_at "go"
      refine ⟨Or.inl ⟨rfl, _, sqL_of hD7⟩, ?_⟩
      walk_at "go"
      refine ⟨w, g, _, rfl, W7, by omega, by omega, fun d3 H8 s8 W8 d30 d31 => ?_⟩
      walk_at "go"
      refine ⟨w, g, _, rfl, W8, by omega, by omega, fun d4 H9 s9 W9 d40 d41 => ?_⟩
      walk_at "go"
      intro l2 nl2
      generalize hU2 : upd H9 l2 _ = H10
      obtain ⟨s10, W10, al2⟩ := new_ofK W9 nl2 hU2
      refine ⟨w, g, l2, _, rfl, W10, .inl al2, by simp, by simp, fun x H11 mx s11 W11 => ?_⟩
      obtain ⟨t, mt, rfl⟩ := mem_ints (ns := [1, 1 + d3, 1 + d4, 60, 59]) rfl mx
      have t01 : 1 ≤ t ∧ t ≤ 60 := by
        simp at mt
        omega
      walk_at "go"
      intro q1 nq1
      generalize hU3 : upd H11 q1 _ = H12
      obtain ⟨s12, W12, aq1⟩ := new_ofK W11 nq1 hU3
      have go12 : Go w g H3 H12 := ((((go7.trans s8).trans s9).trans (Go.of s10)).trans s11).trans (Go.of s12)
      have hD12 := (aD3.go go12).at_
      have hA12 := hA.go W3 go12
      have wq : Wt H12 q1 f.toNat t.toNat := ⟨by rw [Int.toNat_of_nonneg f01.1, Int.toNat_of_nonneg (by omega)]; exact aq1.at_, by omega, by omega, by omega⟩
      refine ⟨D, as.map V.ref, .ref q1, rfl, rfl, hD12, small1000 (by rw [List.length_map]; omega), ?_⟩
      have hD13 : (upd H12 D (.lst (as.map V.ref ++ [V.ref q1]))) D = some (.lst ((as ++ [q1]).map V.ref)) := by
        rw [upd_same, List.map_append]
        rfl
      have W13 : Dk w g (upd H12 D (.lst (as.map V.ref ++ [V.ref q1]))) := dk_upd W12 hD12 nw ng
      have S13 : Go w g H (upd H12 D (.lst (as.map V.ref ++ [V.ref q1]))) := go_upd (S3.trans go12) nD
      have hA13 : AllW (upd H12 D (.lst (as.map V.ref ++ [V.ref q1]))) (as ++ [q1]) := fun a ha => by
        rcases List.mem_append.mp ha with h | h
        · exact (hA12.upd hD12) a h
        · rw [List.mem_singleton.mp h]
          exact ⟨_, _, wq.upd hD12⟩
      generalize upd H12 D (.lst (as.map V.ref ++ [V.ref q1])) = H13 at hD13 W13 S13 hA13
      walk_at "go"
      refine ⟨w, g, _, rfl, W13, by omega, by omega, fun d5 H14 s14 W14 d50 d51 => ?_⟩
      have aD13 : At w g H13 D (.lst ((as ++ [q1]).map V.ref)) := ⟨nw, ng, hD13⟩
      have aD14 := aD13.go s14
      have hA14 := hA13.go W13 s14
      have S14 := S13.trans s14
      have l14 : (as ++ [q1]).length = i + 1 := by rw [List.length_append, hl]; rfl
      generalize as ++ [q1] = bs at hD13 hA13 aD13 aD14 hA14 l14
      walk_at "go"
      refine ifD (fun e => ?_) (fun e => ?_)
      · walk_at "go"
        refine ⟨w, g, D, _, rfl, W14, .inl aD14, by rw [List.length_map]; omega, by rw [List.length_map]; omega, fun x H15 mx s15 W15 => ?_⟩
        obtain ⟨b, hb, rfl⟩ := mem_refs mx
        have aD15 := aD14.go s15
        have hD15 := aD15.at_
        have hA15 := hA14.go W14 s15
        walk_at "go"
        refine ⟨D, bs.map V.ref, _, i, rfl, rfl, hD15, ?_, ?_⟩
        · rw [List.length_map, l14]
          unfold ixN
          rw [if_neg (by decide), if_pos (by omega)]
          congr 1
          omega
        have eset : (bs.map V.ref).set i (V.ref b) = (bs.set i b).map V.ref := by rw [List.map_set]
        rw [eset]
        refine ⟨_, _, bs.set i b, rfl, dk_upd W15 hD15 nw ng, go_upd (S14.trans s15) nD, upd_same, fun a ha => ?_, by rw [List.length_set, l14]⟩
        refine (hA15.upd hD15) a ?_
        rcases List.mem_or_eq_of_mem_set ha with h | h
        · exact h
        · rw [h]; exact hb
      · exact ⟨_, _, bs, rfl, W14, S14, aD14.at_, hA14, l14⟩
    · obtain ⟨y2, y3, as, rfl, W3, S3, hD, hA, hl⟩ := px
      walk_at "go"
      refine ⟨D, _, rfl, .inl ⟨sqL_of hD, fun p np => ?_⟩⟩
      generalize hV : upd H3 p _ = H4
      obtain ⟨s4, W4, ap⟩ := new_ofK W3 np hV
      obtain ⟨ws, lw, ew⟩ := lot_ws as (hA.same s4)
      exact q p as ws H4 (S3.trans (Go.of s4)) W4 ⟨ap.at_, lw, by omega, by omega, ew⟩
def spLotAt : Sp := fun vs H Q _ => ∃ (w g : Addr) (n : Int), vs = [.ref w, .int n] ∧ Dk w g H ∧
  ∀ L as ws H', Go w g H H' → Dk w g H' → Lot H' L as ws → Q (.ref L) H'
theorem ok_lotat : FnOk P wd K mg base CX0 2 T.a_lot_at T.d_lot_at ["_law_deck_here", "_law_goal"] spLotAt := by
  have G_draw : FnOk P wd K mg base CX0 1 T.a_draw T.d_draw ["_law_deck_here", "_law_size"] spDraw := ok_draw T
  refine T.F_lot_at.ok sc_lot_at (fun vs H Q E h => ?_) (fun cdv A outer s H vs Q E hr h => ?_)
  · obtain ⟨w, g, n, rfl, _⟩ := h
    rfl
  · obtain ⟨w, g, n, rfl, W, q⟩ := h
    refine ⟨_, (pss_cons (ps_set (i := 2) sc_lot_at.nd rfl (Or.inl rfl) (pe_lst pa_nil))
      (pss_cons (ps_for PassesOwn.never rfl (pi_range1 rfl T.n_range (pa_cons (pe_op op_add pe_int (pe_call G_draw hr rfl T.g_draw T.F_draw.kp (b_draw T) .nil pass0 (pa_cons (pv 0) (pa_cons pe_int pa_nil)))) pa_nil)) (pg_name (i := 3) sc_lot_at.nd rfl (Or.inl rfl)) (pss_cons (ps_set (i := 4) sc_lot_at.nd rfl (Or.inl rfl) (pe_op op_add pe_int (pe_call G_draw hr rfl T.g_draw T.F_draw.kp (b_draw T) .nil pass0 (pa_cons (pv 0) (pa_cons pe_int pa_nil)))))
      (pss_cons (ps_set (i := 5) sc_lot_at.nd rfl (Or.inl rfl) (pe_op op_mod (pe_callTy call_int1 rfl T.n_int (by decide +kernel) (pa_cons (pv 1) pa_nil)) (pv 4)))
      (pss_cons (ps_set (i := 6) sc_lot_at.nd rfl (Or.inl rfl) (pe_op op_add (pv 5) (pe_op op_mul (pv 4) (pe_call G_draw hr rfl T.g_draw T.F_draw.kp (b_draw T) .nil pass0 (pa_cons (pv 0) (pa_cons (pe_op op_add (pe_op op_fdiv (pe_op op_sub pe_int (pv 5)) (pv 4)) pe_int) pa_nil))))))
      (pss_one (ps_expr (pe_bm PySem.F.plainAttrs_list PySem.F.slot_list_append PySem.F.type_list_append mt_append (pv 2) (pa_cons (pe_tup (pa_cons (pe_cut (pe_ifExp (PW.pt (pw_and (pt_cmpR op_eq (pe_call G_draw hr rfl T.g_draw T.F_draw.kp (b_draw T) .nil pass0 (pa_cons (pv 0) (pa_cons pe_int pa_nil))) pe_int (nomark _)) (pw_and1 (pt_cmpR op_lt (pv 6) pe_int (nomark _))))) (pe_op op_add (pv 6) pe_int) (pv 6))) (pa_cons (pv 4) pa_nil))) pa_nil))))))))
      (pss_one (ps_ret (pe_callTy call_tuple_of rfl T.n_tuple (by decide +kernel) (pa_cons (pv 2) pa_nil)))))), ?_⟩
    walk_at "go"
    intro D nD
    generalize hU : upd H D _ = H1
    obtain ⟨s1, W1, aD⟩ := new_ofK W nD hU
    walk_at "go"
    refine ⟨w, g, _, rfl, W1, by omega, by omega, fun m H2 s2 W2 m0 m1 => ?_⟩
    have aD2 := aD.go s2
    iterate 2 (walk_at "go1")
    refine ⟨by omega, by omega, ?_⟩
    refine for_range (lo := 0) (n := (2 + m).toNat) (fun i σ H' => ∃ (y3 y4 y5 y6 : Option V) (as : List Addr), σ = [some (.ref w), some (.int n), some (.ref D), y3, y4, y5, y6] ∧ Dk w g H' ∧ Go w g H H' ∧ H' D = some (.lst (as.map V.ref)) ∧ AllW H' as ∧ as.length = i)
      ⟨_, _, _, _, [], rfl, W2, (Go.of s1).trans s2, aD2.at_, (fun a h => by cases h), rfl⟩ (fun i σ H3 hi px => ?_) (fun σ H3 px => ?_)
    · obtain ⟨y3, y4, y5, y6, as, rfl, W3, S3, hD, hA, hl⟩ := px
      have nw := aD.nw
      have ng := aD.ng
      walk_at "go"
      refine ⟨w, g, _, rfl, W3, by omega, by omega, fun d1 H4 s4 W4 d10 d11 => ?_⟩
      walk_at "go"
      obtain ⟨t, ht⟩ : ∃ t : Int, 1 + d1 = t := ⟨_, rfl⟩
      have t01 : 1 ≤ t ∧ t ≤ 60 := by omega
      have r0 := Int.emod_nonneg n (b := 1 + d1) (by omega)
      have r1 := Int.emod_lt_of_pos n (b := 1 + d1) (by omega)
      have k0 : 0 ≤ (200 - n % (1 + d1)) / (1 + d1) := Int.ediv_nonneg (by omega) (by omega)
      have k1 : (200 - n % (1 + d1)) / (1 + d1) ≤ 200 := Int.le_trans (Int.ediv_le_self _ (by omega)) (by omega)
      have k2 : (1 + d1) * ((200 - n % (1 + d1)) / (1 + d1)) ≤ 200 - n % (1 + d1) := Int.mul_ediv_self_le (by omega)
      refine ⟨w, g, _, rfl, W4, (by show 0 < (200 - n % (1 + d1)) / (1 + d1) + 1; omega), (by show (200 - n % (1 + d1)) / (1 + d1) + 1 < 1073741824; omega), fun d2 H5 s5 W5 d20 d21 => ?_⟩
      replace d21 : d2 < (200 - n % (1 + d1)) / (1 + d1) + 1 := d21
      have k3 : (1 + d1) * d2 ≤ (1 + d1) * ((200 - n % (1 + d1)) / (1 + d1)) := Int.mul_le_mul_of_nonneg_left (by omega) (by omega)
      have k4 : 0 ≤ (1 + d1) * d2 := Int.mul_nonneg (by omega) (by omega)
      have cm : CMul (1 + d1) d2 := .inl ⟨by omega, by omega⟩
      obtain ⟨f, hf⟩ : ∃ f : Int, n % (1 + d1) + (1 + d1) * d2 = f := ⟨_, rfl⟩
      have f01 : 0 ≤ f ∧ f ≤ 200 := by omega
      have aD3 : At w g H3 D (.lst (as.map V.ref)) := ⟨nw, ng, hD⟩
      have go5 : Go w g H3 H5 := s4.trans s5
      have hD5 := (aD3.go go5).at_
      walk_at "go"
      refine ⟨Or.inl ⟨rfl, _, sqL_of hD5⟩, ?_⟩
      refine ⟨fun v H' => ∃ F : Int, v = .int F ∧ 0 ≤ F ∧ F ≤ 200 ∧ Dk w g H' ∧ Go w g H5 H', ?_, ?_⟩
      · walk_at "go"
        refine ⟨w, g, _, rfl, W5, by omega, by omega, fun d3 H6 s6 W6 d30 d31 => ?_⟩
        walk_at "go"
        refine ifD (fun e => ?_) (fun e => ?_)
        · walk_at "go"
          refine ifD (fun lt => ?_) (fun nlt => ?_)
          · replace lt : n % (1 + d1) + (1 + d1) * d2 < 200 := lt
            walk_at "go"
            exact s6
          · exact ⟨_, rfl, n % (1 + d1) + (1 + d1) * d2, rfl, by omega, by omega, W6, s6⟩
        · refine ifF (A := True) ?_
          exact ⟨_, rfl, n % (1 + d1) + (1 + d1) * d2, rfl, by omega, by omega, W6, s6⟩
      · rintro v H6 ⟨F, rfl, F0, F1, W6, s6⟩
        walk_at "go"
        intro q1 nq1
        generalize hU3 : upd H6 q1 _ = H7
        obtain ⟨s7, W7, aq1⟩ := new_ofK W6 nq1 hU3
        have go7 : Go w g H3 H7 := (go5.trans s6).trans (Go.of s7)
        have hD7 := (aD3.go go7).at_
        have hA7 := hA.go W3 go7
        have wq : Wt H7 q1 F.toNat (1 + d1).toNat := ⟨by rw [Int.toNat_of_nonneg F0, Int.toNat_of_nonneg (by omega)]; exact aq1.at_, by omega, by omega, by omega⟩
        refine ⟨D, as.map V.ref, .ref q1, rfl, rfl, hD7, small1000 (by rw [List.length_map]; omega), ?_⟩
        have hD13 : (upd H7 D (.lst (as.map V.ref ++ [V.ref q1]))) D = some (.lst ((as ++ [q1]).map V.ref)) := by
          rw [upd_same, List.map_append]
          rfl
        refine ⟨_, _, _, _, as ++ [q1], rfl, dk_upd W7 hD7 nw ng, go_upd (S3.trans go7) nD, hD13, fun a ha => ?_, by rw [List.length_append, hl]; rfl⟩
        rcases List.mem_append.mp ha with h | h
        · exact (hA7.upd hD7) a h
        · rw [List.mem_singleton.mp h]
          exact ⟨_, _, wq.upd hD7⟩
    · obtain ⟨y3, y4, y5, y6, as, rfl, W3, S3, hD, hA, hl⟩ := px
      walk_at "go"
      refine ⟨D, _, rfl, .inl ⟨sqL_of hD, fun p np => ?_⟩⟩
      generalize hV : upd H3 p _ = H4
      obtain ⟨s4, W4, ap⟩ := new_ofK W3 np hV
      obtain ⟨ws, lw, ew⟩ := lot_ws as (hA.same s4)
      exact q p as ws H4 (S3.trans (Go.of s4)) W4 ⟨ap.at_, lw, by omega, by omega, ew⟩
end
set_option pp.deepTerms false
set_option pp.deepTerms.threshold 5
section
variable {P : Program} {wd : World} {K : PySem.W.Frag} {mg : Str → Option Value} {base : Heap} (T : Tp K mg)
theorem Lot.mem {H : Hp} {L : Addr} {as : List Addr} {ws : List (Nat × Nat)} (x : Lot H L as ws) {a : Addr} (h : a ∈ as) : ∃ f t, Wt H a f t := by
  obtain ⟨i, hi⟩ := List.mem_iff_getElem?.mp h
  obtain ⟨f, t, _, y⟩ := x.each i a hi
  exact ⟨f, t, y⟩
def spNear : Sp := fun vs H Q _ => ∃ (w g L : Addr) (as : List Addr) (ws : List (Nat × Nat)), vs = [.ref w, .ref L] ∧ Dk w g H ∧ Lot H L as ws ∧
  ∀ (n : Int) H', Go w g H H' → Dk w g H' → Q (.int n) H'
theorem ok_near : FnOk P wd K mg base CX0 3 T.a_near T.d_near ["_law_deck_here", "_law_lot_here"] spNear := by
  have G_pick : FnOk P wd K mg base CX0 2 T.a_pick T.d_pick ["_law_deck_here", "_law_row"] spPick := ok_pick T
  have G_far : FnOk P wd K mg base CX0 2 T.a_far T.d_far ["_law_deck_here", "_law_most"] spFar := ok_far T
  refine T.F_near.ok sc_near (fun vs H Q E h => ?_) (fun cdv A outer s H vs Q E hr h => ?_)
  · obtain ⟨w, g, L, as, ws, rfl, _⟩ := h
    rfl
  · obtain ⟨w, g, L, as, ws, rfl, W, x, q⟩ := h
    refine ⟨_, (pss_cons (ps_asg (pe_call G_pick hr rfl T.g_pick T.F_pick.kp (b_pick T) .nil pass0 (pa_cons (pv 0) (pa_cons (pv 1) pa_nil))) (pg_tup rfl (pgs_cons (pg_name (i := 2) sc_near.nd rfl (Or.inl rfl)) (pgs_cons (pg_name (i := 3) sc_near.nd rfl (Or.inl rfl)) pgs_nil))))
      (pss_cons (ps_set (i := 4) sc_near.nd rfl (Or.inl rfl) (pe_op op_add (pv 2) (pe_op op_mul (pv 3) (pe_call G_far hr rfl T.g_far T.F_far.kp (b_far T) .nil pass0 (pa_cons (pv 0) (pa_cons (pe_call G_pick hr rfl T.g_pick T.F_pick.kp (b_pick T) .nil pass0 (pa_cons (pv 0) (pa_cons (pe_lst (pa_cons pe_int (pa_cons pe_int (pa_cons (pe_op op_pow pe_int pe_int) (pa_cons (pe_op op_fdiv (pe_op op_sub (pe_op op_pow pe_int pe_int) pe_int) pe_int) pa_nil))))) pa_nil))) pa_nil))))))
      (pss_one (ps_ret (pe_call G_pick hr rfl T.g_pick T.F_pick.kp (b_pick T) .nil pass0 (pa_cons (pv 0) (pa_cons (pe_lst (pa_cons (pv 4) (pa_cons (pv 4) (pa_cons (pe_callB (call_max2 rfl) rfl T.n_max (by decide +kernel) (pa_cons (pe_op op_sub (pv 4) pe_int) (pa_cons pe_int pa_nil))) (pa_cons (pe_callB (call_max2 rfl) rfl T.n_max (by decide +kernel) (pa_cons (pe_op op_sub (pv 2) (pv 3)) (pa_cons pe_int pa_nil))) pa_nil))))) pa_nil))))))), ?_⟩
    have l1 := x.l1
    have l9 := x.l9
    have ll := x.len
    walk_at "go"
    refine ⟨w, g, L, _, rfl, W, .inr (W.tup x.at_), by rw [List.length_map]; omega, by rw [List.length_map]; omega, fun v H1 mv s1 W1 => ?_⟩
    obtain ⟨a, ha, rfl⟩ := mem_refs mv
    obtain ⟨f, t, y⟩ := x.mem ha
    have y1 := y.go W s1
    have hy := y1.at_
    have t0 := y1.t0
    have t6 := y1.t6
    walk_at "go"
    intro l1 nl1
    generalize hU1 : upd H1 l1 _ = H2
    obtain ⟨s2, W2, al1⟩ := new_ofK W1 nl1 hU1
    refine ⟨w, g, l1, _, rfl, W2, .inl al1, by simp, by simp, fun v H3 mv s3 W3 => ?_⟩
    obtain ⟨m, mm, rfl⟩ := mem_ints (ns := [3, 60, 10 ^ Int.toNat 6, (10 ^ Int.toNat 18 - 200) / 60]) rfl mv
    have m0 : 0 ≤ m := by
      have e1 : (0 : Int) ≤ 10 ^ Int.toNat 6 := by decide
      have e2 : (0 : Int) ≤ (10 ^ Int.toNat 18 - 200) / 60 := by decide
      simp only [List.mem_cons, List.not_mem_nil, or_false] at mm
      rcases mm with rfl | rfl | rfl | rfl
      · decide
      · decide
      · exact e1
      · exact e2
    clear mm mv
    walk_at "go"
    refine ⟨w, g, m, rfl, W3, m0, fun d H4 s4 W4 d0 d1 => ?_⟩
    have cm : CMul (t : Int) d := .inl ⟨by omega, by omega⟩
    walk_at "go"
    intro l2 nl2
    generalize hU2 : upd H4 l2 _ = H5
    obtain ⟨s5, W5, al2⟩ := new_ofK W4 nl2 hU2
    refine ⟨w, g, l2, _, rfl, W5, .inl al2, by simp, by simp, fun v H6 mv s6 W6 => ?_⟩
    have ev : ∃ n, v = .int n := by
      simp only [List.mem_cons, List.not_mem_nil, or_false] at mv
      rcases mv with rfl | rfl | rfl | rfl <;> exact ⟨_, rfl⟩
    obtain ⟨n, rfl⟩ := ev
    exact q n H6 ((((s1.trans (Go.of s2)).trans s3).trans s4).trans ((Go.of s5).trans s6)) W6
theorem Wt.isW {H : Hp} {a : Addr} {f t : Nat} (x : Wt H a f t) : ∃ f t, Wt H a f t := ⟨f, t, x⟩
def IsW (H : Hp) (a : Addr) : Prop := ∃ f t, Wt H a f t
theorem IsW.same {H H' : Hp} {a : Addr} (x : IsW H a) (s : Same H H') : IsW H' a := by
  obtain ⟨f, t, y⟩ := x
  exact ⟨f, t, y.same s⟩
theorem IsW.go {w g a : Addr} {H H' : Hp} (x : IsW H a) (W : Dk w g H) (s : Go w g H H') : IsW H' a := by
  obtain ⟨f, t, y⟩ := x
  exact ⟨f, t, y.go W s⟩
theorem wt_of {H : Hp} {q : Addr} {a b : Int} (h : H q = some (.tup [.int a, .int b])) (a0 : 0 ≤ a) (a2 : a ≤ 200) (b0 : 1 ≤ b) (b6 : b ≤ 60) : IsW H q :=
  ⟨a.toNat, b.toNat, by rw [Int.toNat_of_nonneg a0, Int.toNat_of_nonneg (by omega)]; exact h, by omega, by omega, by omega⟩
/-- two watches -/
def PairAt (H : Hp) (p : Addr) : Prop := ∃ a b f1 t1 f2 t2, H p = some (.tup [.ref a, .ref b]) ∧ Wt H a f1 t1 ∧ Wt H b f2 t2
theorem PairAt.same {H H' : Hp} {p : Addr} (x : PairAt H p) (s : Same H H') : PairAt H' p := by
  obtain ⟨a, b, f1, t1, f2, t2, h, y, z⟩ := x
  exact ⟨a, b, f1, t1, f2, t2, s _ _ h, y.same s, z.same s⟩
theorem PairAt.go {w g p : Addr} {H H' : Hp} (x : PairAt H p) (W : Dk w g H) (s : Go w g H H') : PairAt H' p := by
  obtain ⟨a, b, f1, t1, f2, t2, h, y, z⟩ := x
  exact ⟨a, b, f1, t1, f2, t2, ((W.tup h).go s).at_, y.go W s, z.go W s⟩
theorem pair_of {H : Hp} {p a b : Addr} (h : H p = some (.tup [.ref a, .ref b])) (x : IsW H a) (y : IsW H b) : PairAt H p := by
  obtain ⟨f1, t1, x⟩ := x
  obtain ⟨f2, t2, y⟩ := y
  exact ⟨a, b, f1, t1, f2, t2, h, x, y⟩
def AllP (H : Hp) (rs : List Addr) : Prop := ∀ r, r ∈ rs → PairAt H r
theorem all_nil {H : Hp} : AllP H [] := fun r h => by cases h
theorem all_cons {H : Hp} {r : Addr} {rs : List Addr} (x : PairAt H r) (y : AllP H rs) : AllP H (r :: rs) := fun u h => by
  rcases List.mem_cons.mp h with e | h
  · rw [e]; exact x
  · exact y u h
def LstP (w g : Addr) (H : Hp) (l : Addr) (rs : List Addr) : Prop := AllP H rs ∧ At w g H l (.lst (rs.map V.ref))
theorem LstP.same {w g l : Addr} {H H' : Hp} {rs : List Addr} (x : LstP w g H l rs) (s : Same H H') : LstP w g H' l rs := ⟨fun r h => (x.1 r h).same s, x.2.go (Go.of s)⟩
theorem LstP.go {w g l : Addr} {H H' : Hp} {rs : List Addr} (x : LstP w g H l rs) (W : Dk w g H) (s : Go w g H H') : LstP w g H' l rs := ⟨fun r h => (x.1 r h).go W s, x.2.go s⟩
theorem cat_of {w g l1 l2 c : Addr} {H : Hp} {rs us : List Addr} (x : LstP w g H l1 rs) (y : LstP w g H l2 us) (h : At w g H c (.lst ((rs ++ us).map V.ref))) : LstP w g H c (rs ++ us) :=
  ⟨fun r hr => (List.mem_append.mp hr).elim (x.1 r) (y.1 r), h⟩
def spPairs : Sp := fun vs H Q _ => ∃ (w g L : Addr) (as : List Addr) (ws : List (Nat × Nat)), vs = [.ref w, .ref L] ∧ Dk w g H ∧ Lot H L as ws ∧
  ∀ (l : Addr) (rs : List Addr) H', Go w g H H' → Dk w g H' → AllP H' rs → H' l = some (.lst (rs.map V.ref)) → Q (.ref l) H'
theorem ok_pairs : FnOk P wd K mg base CX0 3 T.a_pairs T.d_pairs ["_law_deck_here", "_law_lot_here"] spPairs := by
  have G_draw : FnOk P wd K mg base CX0 1 T.a_draw T.d_draw ["_law_deck_here", "_law_size"] spDraw := ok_draw T
  have G_pick : FnOk P wd K mg base CX0 2 T.a_pick T.d_pick ["_law_deck_here", "_law_row"] spPick := ok_pick T
  refine T.F_pairs.ok sc_pairs (fun vs H Q E h => ?_) (fun cdv A outer s H1 vs Q E hr h => ?_)
  · obtain ⟨w, g, L, as, ws, rfl, _⟩ := h
    rfl
  · obtain ⟨w, g, L, as, ws, rfl, W1, x, q⟩ := h
    refine ⟨_, (pss_cons (ps_asg (pe_call G_pick hr rfl T.g_pick T.F_pick.kp (b_pick T) .nil pass0 (pa_cons (pv 0) (pa_cons (pv 1) pa_nil))) (pg_tup rfl (pgs_cons (pg_name (i := 2) sc_pairs.nd rfl (Or.inl rfl)) (pgs_cons (pg_name (i := 3) sc_pairs.nd rfl (Or.inl rfl)) pgs_nil))))
      (pss_cons (ps_set (i := 4) sc_pairs.nd rfl (Or.inl rfl) (pe_lst (pa_cons (pe_tup (pa_cons (pe_tup (pa_cons (pv 2) (pa_cons pe_int pa_nil))) (pa_cons (pe_tup (pa_cons (pe_call G_draw (hr.mono (by decide)) rfl T.g_draw T.F_draw.kp (b_draw T) .nil pass0 (pa_cons (pv 0) (pa_cons pe_int pa_nil))) (pa_cons pe_int pa_nil))) pa_nil))) (pa_cons (pe_tup (pa_cons (pe_tup (pa_cons pe_int (pa_cons pe_int pa_nil))) (pa_cons (pe_tup (pa_cons (pe_op op_sub pe_int (pe_call G_draw (hr.mono (by decide)) rfl T.g_draw T.F_draw.kp (b_draw T) .nil pass0 (pa_cons (pv 0) (pa_cons pe_int pa_nil)))) (pa_cons pe_int pa_nil))) pa_nil))) pa_nil))))
      (pss_cons (ps_set (i := 4) sc_pairs.nd rfl (Or.inl rfl) (pe_op op_cat (pv 4) (pe_lst (pa_cons (pe_tup (pa_cons (pe_tup (pa_cons (pv 2) (pa_cons (pv 3) pa_nil))) (pa_cons (pe_tup (pa_cons (pv 2) (pa_cons (pv 3) pa_nil))) pa_nil))) (pa_cons (pe_tup (pa_cons (pe_tup (pa_cons pe_int (pa_cons pe_int pa_nil))) (pa_cons (pe_tup (pa_cons (pe_call G_draw (hr.mono (by decide)) rfl T.g_draw T.F_draw.kp (b_draw T) .nil pass0 (pa_cons (pv 0) (pa_cons pe_int pa_nil))) (pa_cons pe_int pa_nil))) pa_nil))) (pa_cons (pe_tup (pa_cons (pe_tup (pa_cons pe_int (pa_cons pe_int pa_nil))) (pa_cons (pe_tup (pa_cons pe_int (pa_cons (pv 3) pa_nil))) pa_nil))) pa_nil))))))
      (pss_cons (ps_set (i := 4) sc_pairs.nd rfl (Or.inl rfl) (pe_op op_cat (pv 4) (pe_lst (pa_cons (pe_tup (pa_cons (pe_tup (pa_cons (pe_call G_draw (hr.mono (by decide)) rfl T.g_draw T.F_draw.kp (b_draw T) .nil pass0 (pa_cons (pv 0) (pa_cons pe_int pa_nil))) (pa_cons pe_int pa_nil))) (pa_cons (pe_tup (pa_cons (pe_call G_draw (hr.mono (by decide)) rfl T.g_draw T.F_draw.kp (b_draw T) .nil pass0 (pa_cons (pv 0) (pa_cons pe_int pa_nil))) (pa_cons pe_int pa_nil))) pa_nil))) (pa_cons (pe_tup (pa_cons (pe_tup (pa_cons pe_int (pa_cons pe_int pa_nil))) (pa_cons (pe_tup (pa_cons pe_int (pa_cons pe_int pa_nil))) pa_nil))) pa_nil)))))
      (pss_one (ps_ret (pe_lst (pa_cons (pe_tup (pa_cons (pe_call G_pick hr rfl T.g_pick T.F_pick.kp (b_pick T) .nil pass0 (pa_cons (pv 0) (pa_cons (pv 1) pa_nil))) (pa_cons (pe_call G_pick hr rfl T.g_pick T.F_pick.kp (b_pick T) .nil pass0 (pa_cons (pv 0) (pa_cons (pv 1) pa_nil))) pa_nil))) (pa_cons (pe_call G_pick hr rfl T.g_pick T.F_pick.kp (b_pick T) .nil pass0 (pa_cons (pv 0) (pa_cons (pv 4) pa_nil))) (pa_cons (pe_tup (pa_cons (pe_tup (pa_cons (pv 2) (pa_cons (pv 3) pa_nil))) (pa_cons (pe_call G_pick hr rfl T.g_pick T.F_pick.kp (b_pick T) .nil pass0 (pa_cons (pv 0) (pa_cons (pv 1) pa_nil))) pa_nil))) pa_nil)))))))))), ?_⟩
    have l1' := x.l1
    have l9' := x.l9
    have ll' := x.len
    have go1 : Go w g H1 H1 := Go.refl
    walk_at "go"
    refine ⟨w, g, L, _, rfl, W1, .inr (W1.tup x.at_), by rw [List.length_map]; omega, by rw [List.length_map]; omega, fun va0 H2 ma0 s2 W2 => ?_⟩
    obtain ⟨a0, ha0, rfl⟩ := mem_refs ma0
    replace x := x.go W1 s2
    have go2 := go1.trans s2
    have wa0 : IsW H2 a0 := x.mem ha0
    obtain ⟨f, t, wa⟩ := wa0
    have hwa := wa.at_
    have f2 := wa.f2
    have t0 := wa.t0
    have t6 := wa.t6
    walk_at "go"
    walk_at "go"
    intro q1 nq1
    generalize hU2 : upd H2 q1 _ = H3
    obtain ⟨s3, W3, aq1⟩ := new_ofK W2 nq1 hU2
    replace x := x.same s3
    replace wa := wa.same s3
    have go3 := go2.trans (Go.of s3)
    have wq1 : IsW H3 q1 := wt_of (a := (f : Int)) (b := 60) aq1.at_ (by omega) (by omega) (by omega) (by omega)
    walk_at "go"
    refine ⟨w, g, _, rfl, W3, by omega, by omega, fun d1 H4 s4 W4 d10 d11 => ?_⟩
    replace x := x.go W3 s4
    replace wa := wa.go W3 s4
    replace wq1 := wq1.go W3 s4
    have go4 := go3.trans s4
    walk_at "go"
    walk_at "go"
    intro q2 nq2
    generalize hU4 : upd H4 q2 _ = H5
    obtain ⟨s5, W5, aq2⟩ := new_ofK W4 nq2 hU4
    replace x := x.same s5
    replace wa := wa.same s5
    replace wq1 := wq1.same s5
    have go5 := go4.trans (Go.of s5)
    have wq2 : IsW H5 q2 := wt_of (a := d1) (b := 59) aq2.at_ (by omega) (by omega) (by omega) (by omega)
    walk_at "go"
    intro r1 nr1
    generalize hU5 : upd H5 r1 _ = H6
    obtain ⟨s6, W6, ar1⟩ := new_ofK W5 nr1 hU5
    replace x := x.same s6
    replace wa := wa.same s6
    replace wq1 := wq1.same s6
    replace wq2 := wq2.same s6
    have go6 := go5.trans (Go.of s6)
    have pr1 : PairAt H6 r1 := pair_of ar1.at_ wq1 wq2
    walk_at "go"
    walk_at "go"
    intro q3 nq3
    generalize hU6 : upd H6 q3 _ = H7
    obtain ⟨s7, W7, aq3⟩ := new_ofK W6 nq3 hU6
    replace x := x.same s7
    replace wa := wa.same s7
    replace pr1 := pr1.same s7
    have go7 := go6.trans (Go.of s7)
    have wq3 : IsW H7 q3 := wt_of (a := 0) (b := 60) aq3.at_ (by omega) (by omega) (by omega) (by omega)
    walk_at "go"
    refine ⟨w, g, _, rfl, W7, by omega, by omega, fun d2 H8 s8 W8 d20 d21 => ?_⟩
    replace x := x.go W7 s8
    replace wa := wa.go W7 s8
    replace pr1 := pr1.go W7 s8
    replace wq3 := wq3.go W7 s8
    have go8 := go7.trans s8
    walk_at "go"
    walk_at "go"
    intro q4 nq4
    generalize hU8 : upd H8 q4 _ = H9
    obtain ⟨s9, W9, aq4⟩ := new_ofK W8 nq4 hU8
    replace x := x.same s9
    replace wa := wa.same s9
    replace pr1 := pr1.same s9
    replace wq3 := wq3.same s9
    have go9 := go8.trans (Go.of s9)
    have wq4 : IsW H9 q4 := wt_of (a := 200 - d2) (b := 58) aq4.at_ (by omega) (by omega) (by omega) (by omega)
    walk_at "go"
    intro r2 nr2
    generalize hU9 : upd H9 r2 _ = H10
    obtain ⟨s10, W10, ar2⟩ := new_ofK W9 nr2 hU9
    replace x := x.same s10
    replace wa := wa.same s10
    replace pr1 := pr1.same s10
    replace wq3 := wq3.same s10
    replace wq4 := wq4.same s10
    have go10 := go9.trans (Go.of s10)
    have pr2 : PairAt H10 r2 := pair_of ar2.at_ wq3 wq4
    walk_at "go"
    intro l1 nl1
    generalize hU10 : upd H10 l1 _ = H11
    obtain ⟨s11, W11, al1⟩ := new_ofK W10 nl1 hU10
    replace x := x.same s11
    replace wa := wa.same s11
    replace pr1 := pr1.same s11
    replace pr2 := pr2.same s11
    have go11 := go10.trans (Go.of s11)
    have Ll1 : LstP w g H11 l1 [r1, r2] := ⟨(all_cons pr1 (all_cons pr2 all_nil)), al1⟩
    walk_at "go"
    walk_at "go"
    intro q5 nq5
    generalize hU11 : upd H11 q5 _ = H12
    obtain ⟨s12, W12, aq5⟩ := new_ofK W11 nq5 hU11
    replace x := x.same s12
    replace wa := wa.same s12
    replace Ll1 := Ll1.same s12
    have go12 := go11.trans (Go.of s12)
    have wq5 : IsW H12 q5 := wt_of (a := (f : Int)) (b := (t : Int)) aq5.at_ (by omega) (by omega) (by omega) (by omega)
    walk_at "go"
    walk_at "go"
    intro q6 nq6
    generalize hU12 : upd H12 q6 _ = H13
    obtain ⟨s13, W13, aq6⟩ := new_ofK W12 nq6 hU12
    replace x := x.same s13
    replace wa := wa.same s13
    replace Ll1 := Ll1.same s13
    replace wq5 := wq5.same s13
    have go13 := go12.trans (Go.of s13)
    have wq6 : IsW H13 q6 := wt_of (a := (f : Int)) (b := (t : Int)) aq6.at_ (by omega) (by omega) (by omega) (by omega)
    walk_at "go"
    intro r3 nr3
    generalize hU13 : upd H13 r3 _ = H14
    obtain ⟨s14, W14, ar3⟩ := new_ofK W13 nr3 hU13
    replace x := x.same s14
    replace wa := wa.same s14
    replace Ll1 := Ll1.same s14
    replace wq5 := wq5.same s14
    replace wq6 := wq6.same s14
    have go14 := go13.trans (Go.of s14)
    have pr3 : PairAt H14 r3 := pair_of ar3.at_ wq5 wq6
    walk_at "go"
    walk_at "go"
    intro q7 nq7
    generalize hU14 : upd H14 q7 _ = H15
    obtain ⟨s15, W15, aq7⟩ := new_ofK W14 nq7 hU14
    replace x := x.same s15
    replace wa := wa.same s15
    replace Ll1 := Ll1.same s15
    replace pr3 := pr3.same s15
    have go15 := go14.trans (Go.of s15)
    have wq7 : IsW H15 q7 := wt_of (a := 200) (b := 59) aq7.at_ (by omega) (by omega) (by omega) (by omega)
    walk_at "go"
    refine ⟨w, g, _, rfl, W15, by omega, by omega, fun d3 H16 s16 W16 d30 d31 => ?_⟩
    replace x := x.go W15 s16
    replace wa := wa.go W15 s16
    replace Ll1 := Ll1.go W15 s16
    replace pr3 := pr3.go W15 s16
    replace wq7 := wq7.go W15 s16
    have go16 := go15.trans s16
    walk_at "go"
    walk_at "go"
    intro q8 nq8
    generalize hU16 : upd H16 q8 _ = H17
    obtain ⟨s17, W17, aq8⟩ := new_ofK W16 nq8 hU16
    replace x := x.same s17
    replace wa := wa.same s17
    replace Ll1 := Ll1.same s17
    replace pr3 := pr3.same s17
    replace wq7 := wq7.same s17
    have go17 := go16.trans (Go.of s17)
    have wq8 : IsW H17 q8 := wt_of (a := d3) (b := 60) aq8.at_ (by omega) (by omega) (by omega) (by omega)
    walk_at "go"
    intro r4 nr4
    generalize hU17 : upd H17 r4 _ = H18
    obtain ⟨s18, W18, ar4⟩ := new_ofK W17 nr4 hU17
    replace x := x.same s18
    replace wa := wa.same s18
    replace Ll1 := Ll1.same s18
    replace pr3 := pr3.same s18
    replace wq7 := wq7.same s18
    replace wq8 := wq8.same s18
    have go18 := go17.trans (Go.of s18)
    have pr4 : PairAt H18 r4 := pair_of ar4.at_ wq7 wq8
    walk_at "go"
    walk_at "go"
    intro q9 nq9
    generalize hU18 : upd H18 q9 _ = H19
    obtain ⟨s19, W19, aq9⟩ := new_ofK W18 nq9 hU18
    replace x := x.same s19
    replace wa := wa.same s19
    replace Ll1 := Ll1.same s19
    replace pr3 := pr3.same s19
    replace pr4 := pr4.same s19
    have go19 := go18.trans (Go.of s19)
    have wq9 : IsW H19 q9 := wt_of (a := 0) (b := 1) aq9.at_ (by omega) (by omega) (by omega) (by omega)
    walk_at "go"
    walk_at "go"
    intro q10 nq10
    generalize hU19 : upd H19 q10 _ = H20
    obtain ⟨s20, W20, aq10⟩ := new_ofK W19 nq10 hU19
    replace x := x.same s20
    replace wa := wa.same s20
    replace Ll1 := Ll1.same s20
    replace pr3 := pr3.same s20
    replace pr4 := pr4.same s20
    replace wq9 := wq9.same s20
    have go20 := go19.trans (Go.of s20)
    have wq10 : IsW H20 q10 := wt_of (a := 200) (b := (t : Int)) aq10.at_ (by omega) (by omega) (by omega) (by omega)
    walk_at "go"
    intro r5 nr5
    generalize hU20 : upd H20 r5 _ = H21
    obtain ⟨s21, W21, ar5⟩ := new_ofK W20 nr5 hU20
    replace x := x.same s21
    replace wa := wa.same s21
    replace Ll1 := Ll1.same s21
    replace pr3 := pr3.same s21
    replace pr4 := pr4.same s21
    replace wq9 := wq9.same s21
    replace wq10 := wq10.same s21
    have go21 := go20.trans (Go.of s21)
    have pr5 : PairAt H21 r5 := pair_of ar5.at_ wq9 wq10
    walk_at "go"
    intro l2 nl2
    generalize hU21 : upd H21 l2 _ = H22
    obtain ⟨s22, W22, al2⟩ := new_ofK W21 nl2 hU21
    replace x := x.same s22
    replace wa := wa.same s22
    replace Ll1 := Ll1.same s22
    replace pr3 := pr3.same s22
    replace pr4 := pr4.same s22
    replace pr5 := pr5.same s22
    have go22 := go21.trans (Go.of s22)
    have Ll2 : LstP w g H22 l2 [r3, r4, r5] := ⟨(all_cons pr3 (all_cons pr4 (all_cons pr5 all_nil))), al2⟩
    walk_at "go"
    refine ⟨l1, l2, _, _, rfl, rfl, Ll1.2.at_, Ll2.2.at_, szl (by simp), fun l3 nl3 => ?_⟩
    generalize hU22 : upd H22 l3 _ = H23
    obtain ⟨s23, W23, al3⟩ := new_ofK W22 nl3 hU22
    replace x := x.same s23
    replace wa := wa.same s23
    replace Ll1 := Ll1.same s23
    replace Ll2 := Ll2.same s23
    have go23 := go22.trans (Go.of s23)
    have Ll3 := cat_of Ll1 Ll2 (by simpa using al3)
    walk_at "go"
    refine ⟨w, g, _, rfl, W23, by omega, by omega, fun d4 H24 s24 W24 d40 d41 => ?_⟩
    replace x := x.go W23 s24
    replace wa := wa.go W23 s24
    replace Ll3 := Ll3.go W23 s24
    have go24 := go23.trans s24
    walk_at "go"
    walk_at "go"
    intro q11 nq11
    generalize hU24 : upd H24 q11 _ = H25
    obtain ⟨s25, W25, aq11⟩ := new_ofK W24 nq11 hU24
    replace x := x.same s25
    replace wa := wa.same s25
    replace Ll3 := Ll3.same s25
    have go25 := go24.trans (Go.of s25)
    have wq11 : IsW H25 q11 := wt_of (a := d4) (b := 48) aq11.at_ (by omega) (by omega) (by omega) (by omega)
    walk_at "go"
    refine ⟨w, g, _, rfl, W25, by omega, by omega, fun d5 H26 s26 W26 d50 d51 => ?_⟩
    replace x := x.go W25 s26
    replace wa := wa.go W25 s26
    replace Ll3 := Ll3.go W25 s26
    replace wq11 := wq11.go W25 s26
    have go26 := go25.trans s26
    walk_at "go"
    walk_at "go"
    intro q12 nq12
    generalize hU26 : upd H26 q12 _ = H27
    obtain ⟨s27, W27, aq12⟩ := new_ofK W26 nq12 hU26
    replace x := x.same s27
    replace wa := wa.same s27
    replace Ll3 := Ll3.same s27
    replace wq11 := wq11.same s27
    have go27 := go26.trans (Go.of s27)
    have wq12 : IsW H27 q12 := wt_of (a := d5) (b := 36) aq12.at_ (by omega) (by omega) (by omega) (by omega)
    walk_at "go"
    intro r6 nr6
    generalize hU27 : upd H27 r6 _ = H28
    obtain ⟨s28, W28, ar6⟩ := new_ofK W27 nr6 hU27
    replace x := x.same s28
    replace wa := wa.same s28
    replace Ll3 := Ll3.same s28
    replace wq11 := wq11.same s28
    replace wq12 := wq12.same s28
    have go28 := go27.trans (Go.of s28)
    have pr6 : PairAt H28 r6 := pair_of ar6.at_ wq11 wq12
    walk_at "go"
    walk_at "go"
    intro q13 nq13
    generalize hU28 : upd H28 q13 _ = H29
    obtain ⟨s29, W29, aq13⟩ := new_ofK W28 nq13 hU28
    replace x := x.same s29
    replace wa := wa.same s29
    replace Ll3 := Ll3.same s29
    replace pr6 := pr6.same s29
    have go29 := go28.trans (Go.of s29)
    have wq13 : IsW H29 q13 := wt_of (a := 199) (b := 60) aq13.at_ (by omega) (by omega) (by omega) (by omega)
    walk_at "go"
    walk_at "go"
    intro q14 nq14
    generalize hU29 : upd H29 q14 _ = H30
    obtain ⟨s30, W30, aq14⟩ := new_ofK W29 nq14 hU29
    replace x := x.same s30
    replace wa := wa.same s30
    replace Ll3 := Ll3.same s30
    replace pr6 := pr6.same s30
    replace wq13 := wq13.same s30
    have go30 := go29.trans (Go.of s30)
    have wq14 : IsW H30 q14 := wt_of (a := 198) (b := 60) aq14.at_ (by omega) (by omega) (by omega) (by omega)
    walk_at "go"
    intro r7 nr7
    generalize hU30 : upd H30 r7 _ = H31
    obtain ⟨s31, W31, ar7⟩ := new_ofK W30 nr7 hU30
    replace x := x.same s31
    replace wa := wa.same s31
    replace Ll3 := Ll3.same s31
    replace pr6 := pr6.same s31
    replace wq13 := wq13.same s31
    replace wq14 := wq14.same s31
    have go31 := go30.trans (Go.of s31)
    have pr7 : PairAt H31 r7 := pair_of ar7.at_ wq13 wq14
    walk_at "go"
    intro l4 nl4
    generalize hU31 : upd H31 l4 _ = H32
    obtain ⟨s32, W32, al4⟩ := new_ofK W31 nl4 hU31
    replace x := x.same s32
    replace wa := wa.same s32
    replace Ll3 := Ll3.same s32
    replace pr6 := pr6.same s32
    replace pr7 := pr7.same s32
    have go32 := go31.trans (Go.of s32)
    have Ll4 : LstP w g H32 l4 [r6, r7] := ⟨(all_cons pr6 (all_cons pr7 all_nil)), al4⟩
    walk_at "go"
    refine ⟨l3, l4, _, _, rfl, rfl, Ll3.2.at_, Ll4.2.at_, szl (by simp), fun l5 nl5 => ?_⟩
    generalize hU32 : upd H32 l5 _ = H33
    obtain ⟨s33, W33, al5⟩ := new_ofK W32 nl5 hU32
    replace x := x.same s33
    replace wa := wa.same s33
    replace Ll3 := Ll3.same s33
    replace Ll4 := Ll4.same s33
    have go33 := go32.trans (Go.of s33)
    have Ll5 := cat_of Ll3 Ll4 (by simpa using al5)
    walk_at "go"
    refine ⟨w, g, L, _, rfl, W33, .inr (W33.tup x.at_), by rw [List.length_map]; omega, by rw [List.length_map]; omega, fun vb1 H34 mb1 s34 W34 => ?_⟩
    obtain ⟨b1, hb1, rfl⟩ := mem_refs mb1
    replace x := x.go W33 s34
    replace wa := wa.go W33 s34
    replace Ll5 := Ll5.go W33 s34
    have go34 := go33.trans s34
    have wb1 : IsW H34 b1 := x.mem hb1
    walk_at "go"
    refine ⟨w, g, L, _, rfl, W34, .inr (W34.tup x.at_), by rw [List.length_map]; omega, by rw [List.length_map]; omega, fun vb2 H35 mb2 s35 W35 => ?_⟩
    obtain ⟨b2, hb2, rfl⟩ := mem_refs mb2
    replace x := x.go W34 s35
    replace wa := wa.go W34 s35
    replace Ll5 := Ll5.go W34 s35
    replace wb1 := wb1.go W34 s35
    have go35 := go34.trans s35
    have wb2 : IsW H35 b2 := x.mem hb2
    walk_at "go"
    walk_at "go"
    intro r8 nr8
    generalize hU35 : upd H35 r8 _ = H36
    obtain ⟨s36, W36, ar8⟩ := new_ofK W35 nr8 hU35
    replace x := x.same s36
    replace wa := wa.same s36
    replace Ll5 := Ll5.same s36
    replace wb1 := wb1.same s36
    replace wb2 := wb2.same s36
    have go36 := go35.trans (Go.of s36)
    have pr8 : PairAt H36 r8 := pair_of ar8.at_ wb1 wb2
    walk_at "go"
    refine ⟨w, g, l5, _, rfl, W36, .inl Ll5.2, by simp, by simp, fun vr H37 mr s37 W37 => ?_⟩
    obtain ⟨r9, hr9, rfl⟩ := mem_refs mr
    replace x := x.go W36 s37
    replace wa := wa.go W36 s37
    replace Ll5 := Ll5.go W36 s37
    replace pr8 := pr8.go W36 s37
    have go37 := go36.trans s37
    have pr9 : PairAt H37 r9 := Ll5.1 r9 hr9
    walk_at "go"
    walk_at "go"
    intro q15 nq15
    generalize hU37 : upd H37 q15 _ = H38
    obtain ⟨s38, W38, aq15⟩ := new_ofK W37 nq15 hU37
    replace x := x.same s38
    replace wa := wa.same s38
    replace pr8 := pr8.same s38
    replace pr9 := pr9.same s38
    have go38 := go37.trans (Go.of s38)
    have wq15 : IsW H38 q15 := wt_of (a := (f : Int)) (b := (t : Int)) aq15.at_ (by omega) (by omega) (by omega) (by omega)
    walk_at "go"
    refine ⟨w, g, L, _, rfl, W38, .inr (W38.tup x.at_), by rw [List.length_map]; omega, by rw [List.length_map]; omega, fun vb3 H39 mb3 s39 W39 => ?_⟩
    obtain ⟨b3, hb3, rfl⟩ := mem_refs mb3
    replace x := x.go W38 s39
    replace wa := wa.go W38 s39
    replace pr8 := pr8.go W38 s39
    replace pr9 := pr9.go W38 s39
    replace wq15 := wq15.go W38 s39
    have go39 := go38.trans s39
    have wb3 : IsW H39 b3 := x.mem hb3
    walk_at "go"
    walk_at "go"
    intro r10 nr10
    generalize hU39 : upd H39 r10 _ = H40
    obtain ⟨s40, W40, ar10⟩ := new_ofK W39 nr10 hU39
    replace x := x.same s40
    replace wa := wa.same s40
    replace pr8 := pr8.same s40
    replace pr9 := pr9.same s40
    replace wq15 := wq15.same s40
    replace wb3 := wb3.same s40
    have go40 := go39.trans (Go.of s40)
    have pr10 : PairAt H40 r10 := pair_of ar10.at_ wq15 wb3
    walk_at "go"
    intro l6 nl6
    generalize hU40 : upd H40 l6 _ = H41
    obtain ⟨s41, W41, al6⟩ := new_ofK W40 nl6 hU40
    replace x := x.same s41
    replace wa := wa.same s41
    replace pr8 := pr8.same s41
    replace pr9 := pr9.same s41
    replace pr10 := pr10.same s41
    have go41 := go40.trans (Go.of s41)
    have Ll6 : LstP w g H41 l6 [r8, r9, r10] := ⟨(all_cons pr8 (all_cons pr9 (all_cons pr10 all_nil))), al6⟩
    exact q l6 [r8, r9, r10] H41 go41 W41 Ll6.1 Ll6.2.at_
end
set_option pp.deepTerms false
set_option pp.deepTerms.threshold 5
section
variable {P : Program} {wd : World} {K : PySem.W.Frag} {mg : Str → Option Value} {base : Heap} (T : Tp K mg)
theorem kb_hands_number_watches : KBinds K T.d_hands ["watches", "number"] ["number", "watches"] swapW swapW := by
  obtain ⟨oc, od, kV, doc, pm, an, cdv, ct, osl, e, lk, hcd⟩ := T.F_hands.ex
  rw [e]
  exact kbinds_swap fun a b => rfl
theorem kb_meeting_other_one : KBinds K T.d_meeting ["one", "other"] ["other", "one"] swapW swapW := by
  obtain ⟨oc, od, kV, doc, pm, an, cdv, ct, osl, e, lk, hcd⟩ := T.F_meeting.ex
  rw [e]
  exact kbinds_swap fun a b => rfl
theorem small_int {i : Int} (h0 : 0 ≤ i) (h1 : i ≤ 10000) : Small (.int i) := by
  refine ⟨?_, rfl, by simp [PyData.depth], ?_, ?_⟩
  · simp only [PyData.showable]
    exact decide_eq_true (log_small h0 (by omega))
  · show decide ((PyData.shown (.int i)).length ≤ 8) = true
    rw [decide_eq_true_eq]
    have e := PyProof.Rows.toString_length_le h0 (k := 5) (by decide) (by omega)
    have e2 : (PyData.shown (.int i)).length = (Str.ofString (toString i)).length := rfl
    omega
  · show (if i == 0 then 0 else i.natAbs.log2 + 1) ≤ 20000
    split
    · omega
    · have z : i.natAbs ≠ 0 := fun e => by
        rename_i hz
        exact hz (by rw [Int.natAbs_eq_zero.mp e]; rfl)
      have : i.natAbs.log2 < 64 := (Nat.log2_lt z).mpr (by omega)
      omega
/-- a tuple of small data -/
theorem small_tup {ds : List PyData} (h : ∀ d ∈ ds, Small d ∧ d.weight ≤ 100 ∧ d.depth ≤ 3) (hl : ds.length ≤ 20) : Small (.tuple ds) := by
  obtain ⟨h1, h2, h3, h4, h5⟩ := small_all ds fun d hd => (h d hd).1
  have w : ∀ ds : List PyData, (∀ d ∈ ds, d.weight ≤ 100 ∧ d.depth ≤ 3) → PyData.weightAll ds ≤ 101 * ds.length ∧ PyData.depthAll ds ≤ 3 := by
    intro ds
    induction ds with
    | nil => intro _; simp [PyData.weightAll, PyData.depthAll]
    | cons d ds ih =>
      intro hd
      have a := hd d List.mem_cons_self
      have b := ih fun e he => hd e (List.mem_cons_of_mem _ he)
      refine ⟨?_, ?_⟩
      · simp only [PyData.weightAll, List.length_cons]
        omega
      · simp only [PyData.depthAll]
        omega
  obtain ⟨w1, w2⟩ := w ds fun d hd => (h d hd).2
  refine ⟨?_, ?_, ?_, ?_, ?_⟩
  · simp only [PyData.showable]; exact h1
  · simp only [PyData.hasDict]; exact h2
  · simp only [PyData.depth]; omega
  · simp only [PyData.leavesShort]; exact h4
  · simp only [PyData.weight]
    have : 101 * ds.length ≤ 101 * 20 := Nat.mul_le_mul_left _ hl
    omega
theorem int_fit {i : Int} (h0 : 0 ≤ i) (h1 : i ≤ 10000) : Small (.int i) ∧ PyData.weight (.int i) ≤ 20 ∧ PyData.depth (.int i) ≤ 1 := by
  refine ⟨small_int h0 h1, ?_, by simp [PyData.depth]⟩
  show (if i == 0 then 0 else i.natAbs.log2 + 1) ≤ 20
  split
  · omega
  · have z : i.natAbs ≠ 0 := fun e => by
      rename_i hz
      exact hz (by rw [Int.natAbs_eq_zero.mp e]; rfl)
    have : i.natAbs.log2 < 14 := (Nat.log2_lt z).mpr (by omega)
    omega
def dW (x : Nat × Nat) : PyData := .tuple [.int x.1, .int x.2]
theorem dW_fit {x : Nat × Nat} (h1 : x.1 ≤ 200) (h2 : x.2 ≤ 60) : Small (dW x) ∧ (dW x).weight ≤ 100 ∧ (dW x).depth ≤ 3 := by
  have a := int_fit (i := (x.1 : Int)) (by omega) (by omega)
  have b := int_fit (i := (x.2 : Int)) (by omega) (by omega)
  have w1 := a.2.1
  have w2 := b.2.1
  have d1 := a.2.2
  have d2 := b.2.2
  refine ⟨small_tup (fun d hd => ?_) (by simp), ?_, ?_⟩
  · simp only [List.mem_cons, List.not_mem_nil, or_false] at hd
    rcases hd with rfl | rfl
    · exact ⟨a.1, by omega, by omega⟩
    · exact ⟨b.1, by omega, by omega⟩
  · simp only [dW, PyData.weight, PyData.weightAll] at *
    omega
  · simp only [dW, PyData.depth, PyData.depthAll] at *
    omega
/-- what stands for a lot -/
@[irreducible] def dLot (ws : List (Nat × Nat)) : PyData := .tuple (ws.map dW)
theorem lot_dps {K : PySem.W.Frag} {H : Hp} : ∀ (as : List Addr) (ws : List (Nat × Nat)), as.length = ws.length → (∀ (i : Nat) (a : Addr), as[i]? = some a → ∃ f t, ws[i]? = some (f, t) ∧ Wt H a f t) → DpAll K H (as.map V.ref) (ws.map dW) ∧ ∀ x ∈ ws, x.1 ≤ 200 ∧ x.2 ≤ 60
  | [], [], _, _ => ⟨.nil, fun x h => by cases h⟩
  | [], _ :: _, l, _ => by cases l
  | _ :: _, [], l, _ => by cases l
  | a :: as, x :: ws, l, h => by
    obtain ⟨f, t, e, y⟩ := h 0 a rfl
    obtain rfl := Option.some.inj e
    obtain ⟨r1, r2⟩ := lot_dps as ws (Nat.succ.inj l) fun i b hb => h (i + 1) b hb
    refine ⟨.cons (.tup (sqT_of y.at_) (.cons (.int _) (.cons (.int _) .nil))) r1, fun z hz => ?_⟩
    rcases List.mem_cons.mp hz with rfl | hz
    · exact ⟨y.f2, y.t6⟩
    · exact r2 z hz
theorem repr_lot {K : PySem.W.Frag} {H : Hp} {R : PyData → Prop} {L : Addr} {as : List Addr} {ws : List (Nat × Nat)} (x : Lot H L as ws) (q : R (dLot ws)) :
    ∃ (a' : Addr) (d' : PyData), [V.ref L] = [V.ref a'] ∧ Dp K H (.ref a') d' ∧ d'.showable = true ∧ d'.hasDict = false ∧ d'.depth ≤ 60 ∧ d'.shown.length ≤ sizeLine ∧ R d' := by
  unfold dLot at q
  obtain ⟨r1, r2⟩ := lot_dps (K := K) as ws x.len x.each
  have l9 := x.l9
  have sm : Small (.tuple (ws.map dW)) := small_tup (fun d hd => by
    obtain ⟨z, hz, rfl⟩ := List.mem_map.mp hd
    exact dW_fit (r2 z hz).1 (r2 z hz).2) (by rw [List.length_map]; omega)
  exact go_repr (.tuple (ws.map dW)) (.tup (sqT_of x.at_) r1) sm.sh sm.nd (Nat.le_trans sm.dp (by decide)) sm.lv (Nat.le_trans sm.wt (by decide)) q
def dKs (ks : List Nat) : PyData := .tuple (ks.map fun k => PyData.int (k : Nat))
theorem dp_ks {K : PySem.W.Frag} {H : Hp} : ∀ ks : List Nat, DpAll K H (ks.map fun k => V.int (k : Nat)) (ks.map fun k => PyData.int (k : Nat))
  | [] => .nil
  | k :: ks => .cons (.int _) (dp_ks ks)
theorem small_ks {ks : List Nat} (h : ∀ k ∈ ks, k ≤ 10000) (hl : ks.length ≤ 20) : Small (dKs ks) := small_tup (fun d hd => by
  obtain ⟨k, hk, rfl⟩ := List.mem_map.mp hd
  have a := int_fit (i := (k : Int)) (by omega) (by have := h k hk; omega)
  exact ⟨a.1, by have := a.2.1; omega, by have := a.2.2; omega⟩) (by rw [List.length_map]; exact hl)
@[irreducible] def dHs (ks : List Nat) : PyData := .list [dKs ks, dKs ks]
theorem repr_hs {K : PySem.W.Frag} {H : Hp} {R : PyData → Prop} {l p p' : Addr} {ks : List Nat} (e : H l = some (.lst [.ref p, .ref p'])) (h1 : H p = some (.tup (ks.map fun k => V.int (k : Nat)))) (h2 : H p' = some (.tup (ks.map fun k => V.int (k : Nat))))
    (h : ∀ k ∈ ks, k ≤ 10000) (hl : ks.length ≤ 20) (q : R (dHs ks)) :
    ∃ (a' : Addr) (d' : PyData), [V.ref l] = [V.ref a'] ∧ Dp K H (.ref a') d' ∧ d'.showable = true ∧ d'.hasDict = false ∧ d'.depth ≤ 60 ∧ d'.shown.length ≤ sizeLine ∧ R d' := by
  unfold dHs at q
  exact repr_items [dKs ks, dKs ks] e (.cons (.tup (sqT_of h1) (dp_ks ks)) (.cons (.tup (sqT_of h2) (dp_ks ks)) .nil)) (List.forall_mem_cons.mpr ⟨small_ks h hl, List.forall_mem_cons.mpr ⟨small_ks h hl, fun _ z => by cases z⟩⟩) (by simp) q
theorem hs_le {ws : List (Nat × Nat)} {n : Int} (h : ws.length ≤ 9) : (∀ k ∈ hs ws n, k ≤ 10000) ∧ (hs ws n).length ≤ 20 := by
  unfold hs plw
  refine ⟨fun k hk => ?_, ?_⟩
  · have := List.mem_range.mp (List.mem_filter.mp hk).1
    omega
  · have h1 := List.length_filter_le (gP ws n) (List.range ws.length)
    rw [List.length_range] at h1
    omega
def vd : V → PyData
  | .int i => .int i
  | _ => .none
@[irreducible] def dV3 (v : V) : PyData := .list [vd v, vd v, vd v]
theorem vd_of {f1 t1 f2 t2 : Nat} {v : V} (h : MeetV f1 t1 f2 t2 v) : (∀ {K : PySem.W.Frag} {H : Hp}, Dp K H v (vd v)) ∧ Num (vd v) := by
  rcases h with ⟨rfl, _⟩ | ⟨n, rfl, _, h⟩
  · exact ⟨.non, .inl rfl⟩
  · exact ⟨.int _, .inr ⟨_, rfl, by omega, by omega⟩⟩
theorem repr_v3 {K : PySem.W.Frag} {H : Hp} {R : PyData → Prop} {l : Addr} {v : V} {f1 t1 f2 t2 : Nat} (e : H l = some (.lst [v, v, v])) (h : MeetV f1 t1 f2 t2 v) (q : R (dV3 v)) :
    ∃ (a' : Addr) (d' : PyData), [V.ref l] = [V.ref a'] ∧ Dp K H (.ref a') d' ∧ d'.showable = true ∧ d'.hasDict = false ∧ d'.depth ≤ 60 ∧ d'.shown.length ≤ sizeLine ∧ R d' := by
  unfold dV3 at q
  obtain ⟨h1, h2⟩ := vd_of h
  exact repr_nums [vd v, vd v, vd v] e (.cons h1 (.cons h1 (.cons h1 .nil))) (List.forall_mem_cons.mpr ⟨h2, List.forall_mem_cons.mpr ⟨h2, List.forall_mem_cons.mpr ⟨h2, fun _ z => by cases z⟩⟩⟩) (by simp) q
theorem shown_01 : (dHs [0, 1]).shown = Str.ofString "[(0, 1), (0, 1)]" := by
  unfold dHs
  decide +kernel
theorem hs_two {f1 t1 f2 t2 : Nat} {n : Int} (h1 : gB f1 t1 n = true) (h2 : gB f2 t2 n = true) : hs [(f1, t1), (f2, t2)] n = [0, 1] := by
  have e0 : gP [(f1, t1), (f2, t2)] n 0 = true := h1
  have e1 : gP [(f1, t1), (f2, t2)] n 1 = true := h2
  show plw (gP [(f1, t1), (f2, t2)] n) 2 = [0, 1]
  rw [plw_succ, plw_succ, if_pos e0, if_pos e1]
  rfl
theorem lot_two {H : Hp} {p u b : Addr} {f1 t1 f2 t2 : Nat} (h : H p = some (.tup [.ref u, .ref b])) (x : Wt H u f1 t1) (y : Wt H b f2 t2) : Lot H p [u, b] [(f1, t1), (f2, t2)] := by
  refine ⟨h, rfl, by simp, by simp, fun i a hi => ?_⟩
  match i, hi with
  | 0, hi => obtain rfl := Option.some.inj hi; exact ⟨f1, t1, rfl, x⟩
  | 1, hi => obtain rfl := Option.some.inj hi; exact ⟨f2, t2, rfl, y⟩
  | i + 2, hi => cases hi
theorem m1_ok : MeetV 0 60 1 59 (.int 60) := .inr ⟨60, rfl, ⟨⟨by decide, by decide, by decide, by decide⟩, fun m hm b => by
  have h1 := b.2.1
  have h2 := b.2.2.1
  omega⟩, by decide⟩
theorem m2_ok : MeetV 3 4 1 6 (.int 7) := .inr ⟨7, rfl, ⟨⟨by decide, by decide, by decide, by decide⟩, fun m hm b => by
  have h1 := b.1
  have h2 := b.2.2.1
  have h3 := b.2.2.2
  omega⟩, by decide⟩
theorem m3_ok : MeetV 200 60 0 1 (.int 200) := .inr ⟨200, rfl, ⟨⟨by decide, by decide, by decide, by decide⟩, fun m hm b => by
  have h1 := b.1
  omega⟩, by decide⟩
theorem lot_eight {H : Hp} {p u : Addr} (h : H p = some (.tup (List.replicate (8 : Int).toNat [V.ref u]).flatten)) (x : Wt H u 0 1) : Lot H p (List.replicate 8 u) (List.replicate 8 (0, 1)) := by
  refine ⟨h, by simp, by simp, by simp, fun i a hi => ?_⟩
  have il : i < 8 := by
    have := (List.getElem?_eq_some_iff.mp hi).1
    simpa using this
  rw [List.getElem?_replicate, if_pos il] at hi
  obtain rfl := Option.some.inj hi
  exact ⟨0, 1, by rw [List.getElem?_replicate, if_pos il], x⟩
theorem hs_eight : hs (List.replicate 8 (0, 1)) (10 ^ Int.toNat 18) = [0, 1, 2, 3, 4, 5, 6, 7] := by decide +kernel
@[irreducible] def dEnd : PyData := .list [.int 60, .int 7, .int 200, dKs [0, 1, 2, 3, 4, 5, 6, 7]]
theorem repr_end {K : PySem.W.Frag} {H : Hp} {R : PyData → Prop} {l h : Addr} (e : H l = some (.lst [.int 60, .int 7, .int 200, .ref h])) (hh : H h = some (.tup ([0, 1, 2, 3, 4, 5, 6, 7].map fun k : Nat => V.int (k : Nat)))) (q : R dEnd) :
    ∃ (a' : Addr) (d' : PyData), [V.ref l] = [V.ref a'] ∧ Dp K H (.ref a') d' ∧ d'.showable = true ∧ d'.hasDict = false ∧ d'.depth ≤ 60 ∧ d'.shown.length ≤ sizeLine ∧ R d' := by
  unfold dEnd at q
  refine repr_items [.int 60, .int 7, .int 200, dKs [0, 1, 2, 3, 4, 5, 6, 7]] e (.cons (.int _) (.cons (.int _) (.cons (.int _) (.cons (.tup (sqT_of hh) (dp_ks _)) .nil)))) ?_ (by simp) q
  intro d hd
  simp only [List.mem_cons, List.not_mem_nil, or_false] at hd
  rcases hd with rfl | rfl | rfl | rfl
  · exact small_int (by decide) (by decide)
  · exact small_int (by decide) (by decide)
  · exact small_int (by decide) (by decide)
  · exact small_ks (by decide) (by decide)
def spLaw (K : PySem.W.Frag) : Sp := fun vs H Q _ => ∃ (a : Addr) (ns : List Int), vs = [.ref a] ∧ SqL K H a (ns.map V.int) ∧ ns.length ≤ 63 ∧ ∀ H', Q (.bl true) H'
theorem ok_law : FnG P wd K mg base 4 T.a_law T.d_law ["_law_script"] (spLaw K) := by
  have G_deck : FnOk P wd K mg base CX0 1 T.a_deck T.d_deck ["_law_script"] (spDeck K) := ok_deck T
  have G_draw : FnOk P wd K mg base CX0 1 T.a_draw T.d_draw ["_law_deck_here", "_law_size"] spDraw := ok_draw T
  have G_pick : FnOk P wd K mg base CX0 2 T.a_pick T.d_pick ["_law_deck_here", "_law_row"] spPick := ok_pick T
  have G_far : FnOk P wd K mg base CX0 2 T.a_far T.d_far ["_law_deck_here", "_law_most"] spFar := ok_far T
  have G_divisor : FnOk P wd K mg base CX0 1 T.a_divisor T.d_divisor ["_law_left", "_law_right"] spDiv := ok_divisor T
  have G_lot : FnOk P wd K mg base CX0 3 T.a_lot T.d_lot ["_law_deck_here"] spLot := ok_lot T
  have G_lot_at : FnOk P wd K mg base CX0 2 T.a_lot_at T.d_lot_at ["_law_deck_here", "_law_goal"] spLotAt := ok_lotat T
  have G_lgoes : FnOk P wd K mg base CX0 1 T.a_lgoes T.d_lgoes ["_law_watch", "_law_at"] spGoes := ok_lgoes T
  have G_near : FnOk P wd K mg base CX0 3 T.a_near T.d_near ["_law_deck_here", "_law_lot_here"] spNear := ok_near T
  have G_met : FnOk P wd K mg base CX0 1 T.a_met T.d_met ["_law_left", "_law_right"] spMeet := ok_met T
  have G_pairs : FnOk P wd K mg base CX0 3 T.a_pairs T.d_pairs ["_law_deck_here", "_law_lot_here"] spPairs := ok_pairs T
  have G_hands : FnOk P wd K mg base CX0 2 T.a_hands T.d_hands ["watches", "number"] spHands := ok_hands T
  have G_meeting : FnOk P wd K mg base CX0 2 T.a_meeting T.d_meeting ["one", "other"] spMeet := ok_meeting T
  refine fnG_of T.F_law sc_law (fun vs H Q E h => ?_) (fun cdv A ou s H vs Q E hgd0 hr h => ?_)
  · obtain ⟨a, ns, rfl, _⟩ := h
    rfl
  · have hgd : (cxOf CX0 P wd K mg base nm_law "law" (defScope s_law) T.a_law cdv A ou s H E).nox.A.guards = some [] := hgd0
    have hu4 : (cxOf CX0 P wd K mg base nm_law "law" (defScope s_law) T.a_law cdv A ou s H E).nox.A.units + 64 < cLine := hr.units
    obtain ⟨a, ns, rfl, hS, hl, q⟩ := h
    refine ⟨_, (pss_cons (ps_set (i := 1) sc_law.nd rfl (Or.inl rfl) (pe_call G_deck (hr.mono (by decide)) rfl T.g_deck T.F_deck.kp (b_deck T) .nil pass0 (pa_cons (pv 0) pa_nil)))
      (pss_cons (ps_for PassesOwn.never rfl (pi_range1 rfl T.n_range (pa_cons pe_int pa_nil)) (pg_name (i := 2) sc_law.nd rfl (Or.inl rfl)) (pss_cons (ps_set (i := 3) sc_law.nd rfl (Or.inl rfl) (pe_call G_pick (hr.mono (by decide)) rfl T.g_pick T.F_pick.kp (b_pick T) .nil pass0 (pa_cons (pv 1) (pa_cons (pe_lst (pa_cons (pe_call G_draw (hr.mono (by decide)) rfl T.g_draw T.F_draw.kp (b_draw T) .nil pass0 (pa_cons (pv 1) (pa_cons pe_int pa_nil))) (pa_cons (pe_call G_far (hr.mono (by decide)) rfl T.g_far T.F_far.kp (b_far T) .nil pass0 (pa_cons (pv 1) (pa_cons (pe_op op_pow pe_int pe_int) pa_nil))) (pa_cons (pe_op op_pow pe_int pe_int) (pa_cons (pe_op op_add (pe_op op_add (pe_op op_pow pe_int pe_int) pe_int) (pe_call G_draw (hr.mono (by decide)) rfl T.g_draw T.F_draw.kp (b_draw T) .nil pass0 (pa_cons (pv 1) (pa_cons pe_int pa_nil)))) pa_nil))))) pa_nil))))
      (pss_cons (ps_set (i := 4) sc_law.nd rfl (Or.inl rfl) (pe_cut (pe_ifExp (pt_cmpR op_eq (pe_call G_draw (hr.mono (by decide)) rfl T.g_draw T.F_draw.kp (b_draw T) .nil pass0 (pa_cons (pv 1) (pa_cons pe_int pa_nil))) pe_int (nomark _)) (pe_call G_lot hr rfl T.g_lot T.F_lot.kp (b_lot T) .nil pass0 (pa_cons (pv 1) pa_nil)) (pe_call G_lot_at (hr.mono (by decide)) rfl T.g_lot_at T.F_lot_at.kp (b_lot_at T) .nil pass0 (pa_cons (pv 1) (pa_cons (pv 3) pa_nil))))))
      (pss_cons (ps_set (i := 5) sc_law.nd rfl (Or.inl rfl) (pe_callB (call_reprD hgd hu4) rfl T.n_repr (by decide +kernel) (pa_cons (pv 4) pa_nil)))
      (pss_cons (ps_for PassesOwn.never rfl (pi_list (pe_lst (pa_cons (pv 3) (pa_cons (pe_call G_near hr rfl T.g_near T.F_near.kp (b_near T) .nil pass0 (pa_cons (pv 1) (pa_cons (pv 4) pa_nil))) (pa_cons (pe_call G_near hr rfl T.g_near T.F_near.kp (b_near T) .nil pass0 (pa_cons (pv 1) (pa_cons (pv 4) pa_nil))) (pa_cons (pe_call G_draw (hr.mono (by decide)) rfl T.g_draw T.F_draw.kp (b_draw T) .nil pass0 (pa_cons (pv 1) (pa_cons pe_int pa_nil))) (pa_cons pe_int pa_nil))))))) (pg_name (i := 6) sc_law.nd rfl (Or.inr rfl)) (pss_cons (ps_set (i := 7) sc_law.nd rfl (Or.inl rfl) (pe_callTy call_tuple_of rfl T.n_tuple (by decide +kernel) (pa_cons (pe_lc (own := [("_law_place", 12), ("_law_watch", 13)]) (g := gTup K 2 (gCons (gName 12) (gCons (gName 13) gNil))) rfl sc_law.nd (pi_enumT rfl T.n_enumerate (pa_cons (pv 4) pa_nil)) (blkOk_by (N := nm_law) (sc := defScope s_law) (by decide +kernel)) (fun _ _ _ _ _ => pg_tup rfl (pgs_cons (pg_name (i := 12) sc_law.nd rfl (Or.inl rfl) (Or.inr rfl)) (pgs_cons (pg_name (i := 13) sc_law.nd rfl (Or.inl rfl) (Or.inr rfl)) pgs_nil))) (fun _ _ _ _ _ => pts_one (pt_val (pe_call G_lgoes (hr.mono (by decide)) rfl T.g_lgoes T.F_lgoes.kp (b_lgoes T) .nil pass0 (pa_cons (pv 13) (pa_cons (pv 6) pa_nil))))) (fun _ _ _ _ _ => (pv 12))) pa_nil)))
      (pss_one (ps_if (pt_cmpR op_ne (pe_callB (call_reprD hgd hu4) rfl T.n_repr (by decide +kernel) (pa_cons (pe_lst (pa_cons (pe_call G_hands (hr.mono (by decide)) rfl T.g_hands T.F_hands.kp (b_hands T) .nil pass0 (pa_cons (pv 4) (pa_cons (pv 6) pa_nil))) (pa_cons (pe_callK0 G_hands (hr.mono (by decide)) rfl T.g_hands T.F_hands.kp (kb_hands_number_watches T) pass0 (pk_cons (pv 6) (pk_cons (pv 4) pk_nil))) pa_nil))) pa_nil)) (pe_callB (call_reprD hgd hu4) rfl T.n_repr (by decide +kernel) (pa_cons (pe_lst (pa_cons (pv 7) (pa_cons (pv 7) pa_nil))) pa_nil)) (nomark _)) (pss_one (ps_ret pe_bl)) pss_nil))))
      (pss_cons (ps_for PassesOwn.never rfl (pi_list (pe_call G_pairs hr rfl T.g_pairs T.F_pairs.kp (b_pairs T) .nil pass0 (pa_cons (pv 1) (pa_cons (pv 4) pa_nil)))) (pg_tup rfl (pgs_cons (pg_name (i := 8) sc_law.nd rfl (Or.inl rfl)) (pgs_cons (pg_name (i := 9) sc_law.nd rfl (Or.inl rfl)) pgs_nil))) (pss_cons (ps_set (i := 7) sc_law.nd rfl (Or.inl rfl) (pe_call G_met (hr.mono (by decide)) rfl T.g_met T.F_met.kp (b_met T) .nil pass0 (pa_cons (pv 8) (pa_cons (pv 9) pa_nil))))
      (pss_cons (ps_set (i := 10) sc_law.nd rfl (Or.inl rfl) (pe_lst (pa_cons (pe_call G_meeting (hr.mono (by decide)) rfl T.g_meeting T.F_meeting.kp (b_meeting T) .nil pass0 (pa_cons (pv 8) (pa_cons (pv 9) pa_nil))) (pa_cons (pe_call G_meeting (hr.mono (by decide)) rfl T.g_meeting T.F_meeting.kp (b_meeting T) .nil pass0 (pa_cons (pv 9) (pa_cons (pv 8) pa_nil))) (pa_cons (pe_callK0 G_meeting (hr.mono (by decide)) rfl T.g_meeting T.F_meeting.kp (kb_meeting_other_one T) pass0 (pk_cons (pv 9) (pk_cons (pv 8) pk_nil))) pa_nil)))))
      (pss_cons (ps_if (pt_cmpR op_ne (pe_callB (call_reprD hgd hu4) rfl T.n_repr (by decide +kernel) (pa_cons (pv 10) pa_nil)) (pe_callB (call_reprD hgd hu4) rfl T.n_repr (by decide +kernel) (pa_cons (pe_lst (pa_cons (pv 7) (pa_cons (pv 7) (pa_cons (pv 7) pa_nil)))) pa_nil)) (nomark _)) (pss_one (ps_ret pe_bl)) pss_nil)
      (pss_cons (ps_set (i := 11) sc_law.nd rfl (Or.inl rfl) (pe_callB call_abs rfl T.n_abs (by decide +kernel) (pa_cons (pe_op op_sub (pe_ix ix_tup (pv 8) pe_int (fun _ _ => rfl)) (pe_ix ix_tup (pv 9) pe_int (fun _ _ => rfl))) pa_nil)))
      (pss_cons (ps_if (pt_cmpR op_ne (pe_cmpR op_isN (pv 7) pe_non (nomark _)) (pe_cmpR op_ne (pe_op op_mod (pe_callTy call_int1 rfl T.n_int (by decide +kernel) (pa_cons (pv 11) pa_nil)) (pe_call G_divisor (hr.mono (by decide)) rfl T.g_divisor T.F_divisor.kp (b_divisor T) .nil pass0 (pa_cons (pe_ix ix_tup (pv 8) pe_int (fun _ _ => rfl)) (pa_cons (pe_ix ix_tup (pv 9) pe_int (fun _ _ => rfl)) pa_nil)))) pe_int (nomark _)) (nomark _)) (pss_one (ps_ret pe_bl)) pss_nil)
      (pss_one (ps_if (PW.pt (pw_and (pt_cmpR op_notN (pv 7) pe_non (nomark _)) (pw_and1 (pt_cmpR op_ne (pe_callB (call_reprD hgd hu4) rfl T.n_repr (by decide +kernel) (pa_cons (pe_lst (pa_cons (pe_call G_hands (hr.mono (by decide)) rfl T.g_hands T.F_hands.kp (b_hands T) .nil pass0 (pa_cons (pe_tup (pa_cons (pv 8) (pa_cons (pv 9) pa_nil))) (pa_cons (pv 7) pa_nil))) (pa_cons (pe_call G_hands (hr.mono (by decide)) rfl T.g_hands T.F_hands.kp (b_hands T) .nil pass0 (pa_cons (pe_tup (pa_cons (pv 9) (pa_cons (pv 8) pa_nil))) (pa_cons (pv 7) pa_nil))) pa_nil))) pa_nil)) pe_str (nomark _))))) (pss_one (ps_ret pe_bl)) pss_nil))))))))
      (pss_one (ps_if (pt_cmpR op_ne (pe_callB (call_reprD hgd hu4) rfl T.n_repr (by decide +kernel) (pa_cons (pv 4) pa_nil)) (pv 5) (nomark _)) (pss_one (ps_ret pe_bl)) pss_nil))))))))
      (pss_cons (ps_set (i := 10) sc_law.nd rfl (Or.inl rfl) (pe_lst (pa_cons (pe_call G_meeting (hr.mono (by decide)) rfl T.g_meeting T.F_meeting.kp (b_meeting T) .nil pass0 (pa_cons (pe_tup (pa_cons pe_int (pa_cons pe_int pa_nil))) (pa_cons (pe_tup (pa_cons pe_int (pa_cons pe_int pa_nil))) pa_nil))) (pa_cons (pe_call G_meeting (hr.mono (by decide)) rfl T.g_meeting T.F_meeting.kp (b_meeting T) .nil pass0 (pa_cons (pe_tup (pa_cons pe_int (pa_cons pe_int pa_nil))) (pa_cons (pe_tup (pa_cons pe_int (pa_cons pe_int pa_nil))) pa_nil))) (pa_cons (pe_call G_meeting (hr.mono (by decide)) rfl T.g_meeting T.F_meeting.kp (b_meeting T) .nil pass0 (pa_cons (pe_tup (pa_cons pe_int (pa_cons pe_int pa_nil))) (pa_cons (pe_tup (pa_cons pe_int (pa_cons pe_int pa_nil))) pa_nil))) pa_nil)))))
      (pss_cons (ps_expr (pe_bm PySem.F.plainAttrs_list PySem.F.slot_list_append PySem.F.type_list_append mt_append (pv 10) (pa_cons (pe_call G_hands (hr.mono (by decide)) rfl T.g_hands T.F_hands.kp (b_hands T) .nil pass0 (pa_cons (pe_op op_repT (pe_tup (pa_cons (pe_tup (pa_cons pe_int (pa_cons pe_int pa_nil))) pa_nil)) pe_int) (pa_cons (pe_op op_pow pe_int pe_int) pa_nil))) pa_nil)))
      (pss_one (ps_ret (pe_cmpR op_eq (pe_callB (call_reprD hgd hu4) rfl T.n_repr (by decide +kernel) (pa_cons (pv 10) pa_nil)) (pe_callB (call_reprD hgd hu4) rfl T.n_repr (by decide +kernel) (pa_cons (pe_lst (pa_cons pe_int (pa_cons pe_int (pa_cons pe_int (pa_cons (pe_tup (pa_cons pe_int (pa_cons pe_int (pa_cons pe_int (pa_cons pe_int (pa_cons pe_int (pa_cons pe_int (pa_cons pe_int (pa_cons pe_int pa_nil))))))))) pa_nil))))) pa_nil)) (nomark _)))))))), ?_⟩
    walk_at "go"
    refine ⟨a, ns, rfl, hS, hl, fun w g H1 s1 W1 => ?_⟩
    walk_at "go"
    refine for_range (lo := 0) (n := 4) (fun i σ H2 => ∃ y2 y3 y4 y5 y6 y7 y8 y9 y10 y11 y12 y13 : Option V, σ = [some (.ref a), some (.ref w), y2, y3, y4, y5, y6, y7, y8, y9, y10, y11, y12, y13] ∧ Dk w g H2)
      ⟨_, _, _, _, _, _, _, _, _, _, _, _, rfl, W1⟩ (fun i σ H2 hi px => ?_) (fun σ H2 px => ?_)
    · obtain ⟨y2, y3, y4, y5, y6, y7, y8, y9, y10, y11, y12, y13, rfl, W2⟩ := px
      walk_at "go"
      refine ⟨w, g, _, rfl, W2, by omega, by omega, fun d1 H3 s3 W3 d10 d11 => ?_⟩
      walk_at "go"
      refine ⟨w, g, 10 ^ Int.toNat 18, rfl, W3, by decide, fun d2 H4 s4 W4 d20 d21 => ?_⟩
      walk_at "go"
      refine ⟨w, g, _, rfl, W4, by omega, by omega, fun d3 H5 s5 W5 d30 d31 => ?_⟩
      walk_at "go"
      intro l1 nl1
      generalize hU1 : upd H5 l1 _ = H6
      obtain ⟨s6, W6, al1⟩ := new_ofK W5 nl1 hU1
      refine ⟨w, g, l1, _, rfl, W6, .inl al1, by simp, by simp, fun v H7 mv s7 W7 => ?_⟩
      have ev : ∃ n, v = .int n := by
        simp only [List.mem_cons, List.not_mem_nil, or_false] at mv
        rcases mv with rfl | rfl | rfl | rfl <;> exact ⟨_, rfl⟩
      obtain ⟨goal, rfl⟩ := ev
      clear mv
      refine ⟨fun v H' => ∃ L as ws, v = .ref L ∧ Dk w g H' ∧ Lot H' L as ws, ?_, ?_⟩
      · walk_at "go"
        refine ⟨w, g, _, rfl, W7, by omega, by omega, fun d4 H8 s8 W8 d40 d41 => ?_⟩
        walk_at "go"
        refine ifD (fun _ => ?_) (fun _ => ?_)
        · walk_at "go"
          refine ⟨w, g, rfl, W8, fun L as ws H9 s9 W9 x => ?_⟩
          exact ⟨L, as, ws, rfl, W9, x⟩
        · walk_at "go"
          refine ⟨w, g, goal, rfl, W8, fun L as ws H9 s9 W9 x => ?_⟩
          exact ⟨L, as, ws, rfl, W9, x⟩
      · rintro v H8 ⟨L, as, ws, rfl, W8, x8⟩
        walk_at "go"
        refine repr_lot x8 ?_
        walk_at "go"
        refine ⟨w, g, L, as, ws, rfl, W8, x8, fun n1 H9 s9 W9 => ?_⟩
        have x9 := x8.go W8 s9
        walk_at "go"
        refine ⟨w, g, L, as, ws, rfl, W9, x9, fun n2 H10 s10 W10 => ?_⟩
        have x10 := x9.go W9 s10
        walk_at "go"
        refine ⟨w, g, _, rfl, W10, by omega, by omega, fun d5 H11 s11 W11 d50 d51 => ?_⟩
        have x11 := x10.go W10 s11
        walk_at "go"
        intro l2 nl2
        generalize hU2 : upd H11 l2 _ = H12
        obtain ⟨s12, W12, al2⟩ := new_ofK W11 nl2 hU2
        have x12 := x11.same s12
        refine ⟨l2, rfl, ⟨_, al2.sqL⟩, ?_⟩
        refine for_list (xs := [goal, n1, n2, d5, 0].map V.int) (fun j σ H13 => ∃ y6 y7 y8 y9 y10 y11 y12 y13 : Option V, σ = [some (.ref a), some (.ref w), some (.int (0 + (i : Int))), some (.int goal), some (.ref L), some (.str (dLot ws).shown), y6, y7, y8, y9, y10, y11, y12, y13] ∧
          Dk w g H13 ∧ Go w g H12 H13) ⟨_, _, _, _, _, _, _, _, rfl, W12, Go.refl⟩ (fun j σ H13 _ px => ?_) (fun j v σ H13 hv px => ?_) (fun σ H13 px => ?_)
        · obtain ⟨_, _, _, _, _, _, _, _, _, _, S⟩ := px
          exact (al2.go S).sqL
        · obtain ⟨y6, y7, y8, y9, y10, y11, y12, y13, rfl, W13, S13⟩ := px
          obtain ⟨n, _, rfl⟩ := mem_ints (x := v) (ns := [goal, n1, n2, d5, 0]) rfl (List.mem_of_getElem? hv)
          have x13 := x12.go W12 S13
          walk_at "go"
          refine ⟨L, _, rfl, sqT_of x13.at_, ?_⟩
          intro D nD
          have l9 := x13.l9
          refine lc_enumT (xs := as.map V.ref) (fun j H' => H' D = some (.lst ((plw (gP ws n) j).map fun k => V.int (k : Nat))) ∧ Same H13 H' ∧ j ≤ 9) ⟨upd_same, same_new nD, by omega⟩ (fun j H' px => sqT_of (px.2.1 _ _ x13.at_)) (fun j v T' H' hv px hT => ?_) (fun H' px => ?_)
          · obtain ⟨hD, S, j9⟩ := px
            have jl : j < (as.map V.ref).length := (List.getElem?_eq_some_iff.mp hv).1
            rw [List.length_map, x13.len] at jl
            obtain ⟨u, hu, rfl⟩ : ∃ u, as[j]? = some u ∧ v = .ref u := by
              rw [List.getElem?_map] at hv
              cases e : as[j]? with
              | none => rw [e] at hv; cases hv
              | some u => rw [e] at hv; exact ⟨u, rfl, (Option.some.inj hv).symm⟩
            obtain ⟨f, t, hw, y⟩ := x13.each j u hu
            have S1 : Same H13 (upd H' T' (HO.tup [V.int (j : Nat), V.ref u])) := S.trans (same_new hT)
            have hTup : (upd H' T' (HO.tup [V.int (j : Nat), V.ref u])) T' = some (HO.tup [V.int (j : Nat), V.ref u]) := upd_same
            have hD1 : (upd H' T' (HO.tup [V.int (j : Nat), V.ref u])) D = some (.lst ((plw (gP ws n) j).map fun k => V.int (k : Nat))) := by
              rw [upd_ne (ne_of_none hD hT)]
              exact hD
            have y1 := y.same S1
            have lp : (plw (gP ws n) j).length ≤ j := by
              unfold plw
              exact Nat.le_trans (List.length_filter_le _ _) (by rw [List.length_range]; exact Nat.le_refl _)
            have eg : gP ws n j = gB f t n := by unfold gP; rw [hw]
            generalize upd H' T' (HO.tup [V.int (j : Nat), V.ref u]) = H2 at hTup hD1 S1 y1
            walk_at "go"
            refine ⟨u, f, t, n, rfl, y1, ?_⟩
            refine ⟨_, rfl, ?_⟩
            refine ifB (fun e => ?_) (fun e => ?_)
            · walk_at "go"
              refine ⟨_, hD1, Nat.lt_of_le_of_lt (by rw [List.length_map]; exact Nat.le_trans lp j9) (by decide), ?_, same_mut S1 nD, by omega⟩
              rw [upd_same, plw_succ, if_pos (by rw [eg, e]), List.map_append]
              rfl
            · refine ⟨?_, S1, by omega⟩
              rw [plw_succ, if_neg (by rw [eg, e]; exact Bool.false_ne_true), List.append_nil]
              exact hD1
          · obtain ⟨hD, S, _⟩ := px
            rw [List.length_map, x13.len] at hD
            refine ⟨D, _, rfl, .inl ⟨sqL_of hD, fun p np => ?_⟩⟩
            generalize hU3 : upd H' p _ = H14
            obtain ⟨s14, ap⟩ := new_of0 np hU3
            have S14 : Same H13 H14 := S.trans s14
            have x14 := x13.same S14
            walk_at "go"
            refine ⟨L, as, ws, n, rfl, x14, fun p1 H15 s15 hp1 => ?_⟩
            have x15 := x14.same s15
            walk_at "go"
            refine ⟨L, as, ws, n, rfl, x15, fun p2 H16 s16 hp2 => ?_⟩
            obtain ⟨k1, k2⟩ := hs_le (ws := ws) (n := n) l9
            walk_at "go"
            intro q1 nq1
            generalize hU4 : upd H16 q1 _ = H17
            obtain ⟨s17, aq1⟩ := new_of0 nq1 hU4
            refine repr_hs aq1 (s17 _ _ (s16 _ _ hp1)) (s17 _ _ hp2) k1 k2 ?_
            have ap17 := s17 _ _ (s16 _ _ (s15 _ _ ap))
            walk_at "go"
            intro q2 nq2
            generalize hU5 : upd H17 q2 _ = H18
            obtain ⟨s18, aq2⟩ := new_of0 nq2 hU5
            refine repr_hs aq2 (s18 _ _ ap17) (s18 _ _ ap17) k1 k2 ?_
            walk_at "go"
            refine ifDn (fun c => absurd rfl c) (fun _ => ?_)
            have Sx : Same H13 H18 := (((S14.trans s15).trans s16).trans s17).trans s18
            exact ⟨_, _, _, _, _, _, _, _, rfl, W13.same Sx, S13.trans (Go.of Sx)⟩
        · obtain ⟨y6, y7, y8, y9, y10, y11, y12, y13, rfl, W13, S13⟩ := px
          have x13 := x12.go W12 S13
          walk_at "go"
          refine ⟨w, g, L, as, ws, rfl, W13, x13, fun l rs H14 s14 W14 ap hlr => ?_⟩
          have x14 := x13.go W13 s14
          walk_at "go"
          refine ⟨⟨_, sqL_of hlr⟩, ?_⟩
          refine for_list (xs := rs.map V.ref) (fun j σ H15 => ∃ y6 y7 y8 y9 y10 y11 y12 y13 : Option V, σ = [some (.ref a), some (.ref w), some (.int (0 + (i : Int))), some (.int goal), some (.ref L), some (.str (dLot ws).shown), y6, y7, y8, y9, y10, y11, y12, y13] ∧
            Same H14 H15) ⟨_, _, _, _, _, _, _, _, rfl, Same.rfl'⟩ (fun j σ H15 _ px => ?_) (fun j v σ H15 hv px => ?_) (fun σ H15 px => ?_)
          · obtain ⟨_, _, _, _, _, _, _, _, _, S⟩ := px
            exact sqL_of (S _ _ hlr)
          · obtain ⟨y6, y7, y8, y9, y10, y11, y12, y13, rfl, S15⟩ := px
            obtain ⟨r, hr, rfl⟩ := mem_refs (List.mem_of_getElem? hv)
            obtain ⟨u, b, f1, t1, f2, t2, hp, yu, yb⟩ := (ap r hr).same S15
            have hyu := yu.at_
            have hyb := yb.at_
            walk_at "go"
            refine ⟨u, b, f1, t1, f2, t2, rfl, yu, yb, fun v mv => ?_⟩
            walk_at "go"
            refine ⟨u, b, f1, t1, f2, t2, rfl, yu, yb, fun v1 mv1 => ?_⟩
            obtain rfl := meet_one mv1 mv
            walk_at "go"
            refine ⟨b, u, f2, t2, f1, t1, rfl, yb, yu, fun v2 mv2 => ?_⟩
            obtain rfl := meet_one mv2.symm mv
            walk_at "go"
            refine ⟨u, b, f1, t1, f2, t2, rfl, yu, yb, fun v3 mv3 => ?_⟩
            obtain rfl := meet_one mv3 mv
            walk_at "go"
            intro q1 nq1
            generalize hU4 : upd H15 q1 _ = H16
            obtain ⟨s16, aq1⟩ := new_of0 nq1 hU4
            walk_at "go"
            refine repr_v3 aq1 mv ?_
            walk_at "go"
            intro q2 nq2
            generalize hU5 : upd H16 q2 _ = H17
            obtain ⟨s17, aq2⟩ := new_of0 nq2 hU5
            refine repr_v3 aq2 mv ?_
            have hyu17 := s17 _ _ (s16 _ _ hyu)
            have hyb17 := s17 _ _ (s16 _ _ hyb)
            walk_at "go"
            refine ifDn (fun c => absurd rfl c) (fun _ => ?_)
            walk_at "go"
            have hG : 0 < Nat.gcd t1 t2 := Nat.gcd_pos_of_pos_left _ yu.t0
            have eA : (if (f1 : Int) - (f2 : Int) < 0 then -((f1 : Int) - (f2 : Int)) else (f1 : Int) - (f2 : Int)) % ((Nat.gcd t1 t2 : Nat) : Int) = ((((f1 : Int) - (f2 : Int)).natAbs % Nat.gcd t1 t2 : Nat) : Int) := by
              rw [Int.natCast_emod]
              congr 1
              split <;> omega
            have ex := exists_iff (f1 := f1) (t1 := t1) (f2 := f2) (t2 := t2) yu.t0 yb.t0
            generalize ((f1 : Int) - (f2 : Int)).natAbs % Nat.gcd t1 t2 = Z at eA ex
            refine ⟨(by show (0 : Int) < ((Nat.gcd t1 t2 : Nat) : Int); omega), ?_⟩
            rcases id mv with ⟨rfl, none⟩ | ⟨n, rfl, im, n5⟩
            · have z0 : Z ≠ 0 := fun e => by
                obtain ⟨m, hm⟩ := ex.mpr e
                exact none m hm
              walk_at "go"
              refine ifDn (fun c => absurd ?_ c) (fun _ => ?_)
              · show V.bl (decide (V.non = V.non)) = V.bl (!decide (V.int (_ % _) = V.int 0))
                rw [eA, vi_dec, decide_eq_true rfl, decide_eq_false (by omega)]
                rfl
              walk_at "go"
              refine ifDn (fun c => absurd rfl c) (fun _ => ?_)
              refine ifF (A := True) ?_
              exact ⟨_, _, _, _, _, _, _, _, rfl, (S15.trans s16).trans s17⟩
            · have z0 : Z = 0 := ex.mp ⟨n, im.both⟩
              walk_at "go"
              refine ifDn (fun c => absurd ?_ c) (fun _ => ?_)
              · show V.bl (decide (V.int _ = V.non)) = V.bl (!decide (V.int (_ % _) = V.int 0))
                rw [eA, vi_dec, decide_eq_false (by intro h; cases h), decide_eq_true (by omega)]
                rfl
              have g1 : gB f1 t1 (n : Int) = true := (gB_iff im.both.1).mpr im.both.2.2.1
              have g2 : gB f2 t2 (n : Int) = true := (gB_iff im.both.2.1).mpr im.both.2.2.2
              walk_at "go"
              intro q3 nq3
              generalize hU6 : upd H17 q3 _ = H18
              obtain ⟨s18, aq3⟩ := new_of0 nq3 hU6
              have yu18 := ((yu.same s16).same s17).same s18
              have yb18 := ((yb.same s16).same s17).same s18
              walk_at "go"
              refine ⟨q3, _, _, (n : Int), rfl, lot_two aq3 yu18 yb18, fun p1 H19 s19 hp1 => ?_⟩
              rw [hs_two g1 g2] at hp1
              walk_at "go"
              intro q4 nq4
              generalize hU7 : upd H19 q4 _ = H20
              obtain ⟨s20, aq4⟩ := new_of0 nq4 hU7
              walk_at "go"
              refine ⟨q4, _, _, (n : Int), rfl, lot_two aq4 ((yb18.same s19).same s20) ((yu18.same s19).same s20), fun p2 H21 s21 hp2 => ?_⟩
              rw [hs_two g2 g1] at hp2
              walk_at "go"
              intro q5 nq5
              generalize hU8 : upd H21 q5 _ = H22
              obtain ⟨s22, aq5⟩ := new_of0 nq5 hU8
              refine repr_hs (ks := [0, 1]) aq5 (s22 _ _ (s21 _ _ (s20 _ _ hp1))) (s22 _ _ hp2) (by decide) (by decide) ?_
              walk_at "go"
              refine ifDn (fun c => absurd (congrArg V.str shown_01) c) (fun _ => ?_)
              exact ⟨_, _, _, _, _, _, _, _, rfl, ((((((S15.trans s16).trans s17).trans s18).trans s19).trans s20).trans s21).trans s22⟩
          · obtain ⟨y6, y7, y8, y9, y10, y11, y12, y13, rfl, S15⟩ := px
            have x15 := x14.same S15
            walk_at "go"
            refine repr_lot x15 ?_
            walk_at "go"
            refine ifDn (fun c => absurd rfl c) (fun _ => ?_)
            exact ⟨_, _, _, _, _, _, _, _, _, _, _, _, rfl, W14.same S15⟩
    · obtain ⟨y2, y3, y4, y5, y6, y7, y8, y9, y10, y11, y12, y13, rfl, W2⟩ := px
      walk_at "go"
      intro p1 np1
      generalize hU2 : upd H2 p1 _ = H3
      obtain ⟨s3, ap1⟩ := new_of0 np1 hU2
      have wp1 : Wt H3 p1 0 60 := ⟨ap1, by decide, by decide, by decide⟩
      walk_at "go"
      intro p2 np2
      generalize hU3 : upd H3 p2 _ = H4
      obtain ⟨s4, ap2⟩ := new_of0 np2 hU3
      replace wp1 := wp1.same s4
      have wp2 : Wt H4 p2 1 59 := ⟨ap2, by decide, by decide, by decide⟩
      walk_at "go"
      refine ⟨p1, p2, 0, 60, 1, 59, rfl, wp1, wp2, fun v1 mv1 => ?_⟩
      obtain rfl := meet_one mv1 m1_ok
      walk_at "go"
      intro p3 np3
      generalize hU4 : upd H4 p3 _ = H5
      obtain ⟨s5, ap3⟩ := new_of0 np3 hU4
      replace wp1 := wp1.same s5
      replace wp2 := wp2.same s5
      have wp3 : Wt H5 p3 3 4 := ⟨ap3, by decide, by decide, by decide⟩
      walk_at "go"
      intro p4 np4
      generalize hU5 : upd H5 p4 _ = H6
      obtain ⟨s6, ap4⟩ := new_of0 np4 hU5
      replace wp1 := wp1.same s6
      replace wp2 := wp2.same s6
      replace wp3 := wp3.same s6
      have wp4 : Wt H6 p4 1 6 := ⟨ap4, by decide, by decide, by decide⟩
      walk_at "go"
      refine ⟨p3, p4, 3, 4, 1, 6, rfl, wp3, wp4, fun v2 mv2 => ?_⟩
      obtain rfl := meet_one mv2 m2_ok
      walk_at "go"
      intro p5 np5
      generalize hU6 : upd H6 p5 _ = H7
      obtain ⟨s7, ap5⟩ := new_of0 np5 hU6
      replace wp1 := wp1.same s7
      replace wp2 := wp2.same s7
      replace wp3 := wp3.same s7
      replace wp4 := wp4.same s7
      have wp5 : Wt H7 p5 200 60 := ⟨ap5, by decide, by decide, by decide⟩
      walk_at "go"
      intro p6 np6
      generalize hU7 : upd H7 p6 _ = H8
      obtain ⟨s8, ap6⟩ := new_of0 np6 hU7
      replace wp1 := wp1.same s8
      replace wp2 := wp2.same s8
      replace wp3 := wp3.same s8
      replace wp4 := wp4.same s8
      replace wp5 := wp5.same s8
      have wp6 : Wt H8 p6 0 1 := ⟨ap6, by decide, by decide, by decide⟩
      walk_at "go"
      refine ⟨p5, p6, 200, 60, 0, 1, rfl, wp5, wp6, fun v3 mv3 => ?_⟩
      obtain rfl := meet_one mv3 m3_ok
      walk_at "go"
      intro l1 nl1
      generalize hU8 : upd H8 l1 _ = H9
      obtain ⟨s9, al1⟩ := new_of0 nl1 hU8
      replace wp1 := wp1.same s9
      replace wp2 := wp2.same s9
      replace wp3 := wp3.same s9
      replace wp4 := wp4.same s9
      replace wp5 := wp5.same s9
      replace wp6 := wp6.same s9
      walk_at "go"
      refine ⟨Or.inl ⟨rfl, _, sqL_of al1⟩, ?_⟩
      walk_at "go"
      intro p7 np7
      generalize hU9 : upd H9 p7 _ = H10
      obtain ⟨s10, ap7⟩ := new_of0 np7 hU9
      replace al1 := s10 _ _ al1
      have wp7 : Wt H10 p7 0 1 := ⟨ap7, by decide, by decide, by decide⟩
      walk_at "go"
      intro p8 np8
      generalize hU10 : upd H10 p8 _ = H11
      obtain ⟨s11, ap8⟩ := new_of0 np8 hU10
      replace al1 := s11 _ _ al1
      replace wp7 := wp7.same s11
      walk_at "go"
      refine ⟨p8, 8, _, rfl, rfl, sqT_of ap8, by simp, by decide, by decide, by simp, fun p9 np9 => ?_⟩
      generalize hU11 : upd H11 p9 _ = H12
      obtain ⟨s12, ap9⟩ := new_of0 np9 hU11
      replace al1 := s12 _ _ al1
      replace wp7 := wp7.same s12
      walk_at "go"
      refine ⟨p9, List.replicate 8 p7, List.replicate 8 (0, 1), 10 ^ Int.toNat 18, rfl, lot_eight ap9 wp7, fun h H13 s13 hh => ?_⟩
      rw [hs_eight] at hh
      replace al1 := s13 _ _ al1
      refine ⟨l1, _, .ref h, rfl, rfl, al1, by show 3 < sizeLine; decide, ?_⟩
      have al2 : (upd H13 l1 (.lst ([V.int 60, V.int 7, V.int 200] ++ [V.ref h]))) l1 = some (.lst [V.int 60, V.int 7, V.int 200, V.ref h]) := upd_same
      have hh2 : (upd H13 l1 (.lst ([V.int 60, V.int 7, V.int 200] ++ [V.ref h]))) h = _ := (upd_ne (ne_of hh al1 (by intro z; cases z))).trans hh
      generalize upd H13 l1 (.lst ([V.int 60, V.int 7, V.int 200] ++ [V.ref h])) = H14 at al2 hh2
      walk_at "go"
      refine repr_end al2 hh2 ?_
      walk_at "go"
      intro p10 np10
      generalize hU14 : upd H14 p10 _ = H15
      obtain ⟨s15, ap10⟩ := new_of0 np10 hU14
      walk_at "go"
      intro l3 nl3
      generalize hU15 : upd H15 l3 _ = H16
      obtain ⟨s16, al3⟩ := new_of0 nl3 hU15
      refine repr_end al3 (s16 _ _ ap10) ?_
      walk_at "go"
      rw [decide_eq_true rfl]
      exact q H16
end
theorem all_mk {l : PySem.W.OpenLaw} {w : World} {K : PySem.W.Frag} {h : Heap} {mg : Str → Option Value} {fa : Addr} (X : K.In h) (G : h.Ns mainGlobals mg) (hfa : mg "law" = some (.ref fa))
    {f_hands : Addr} {od_hands an_hands : Option Addr} {sl_hands : Array (Option Value)} {oc_hands kV_hands dc_hands pm_hands cd_hands ct_hands : Value}
    {f_goes : Addr} {od_goes an_goes : Option Addr} {sl_goes : Array (Option Value)} {oc_goes kV_goes dc_goes pm_goes cd_goes ct_goes : Value}
    {f_meeting : Addr} {od_meeting an_meeting : Option Addr} {sl_meeting : Array (Option Value)} {oc_meeting kV_meeting dc_meeting pm_meeting cd_meeting ct_meeting : Value}
    {f_deck : Addr} {od_deck an_deck : Option Addr} {sl_deck : Array (Option Value)} {oc_deck kV_deck dc_deck pm_deck cd_deck ct_deck : Value}
    {f_draw : Addr} {od_draw an_draw : Option Addr} {sl_draw : Array (Option Value)} {oc_draw kV_draw dc_draw pm_draw cd_draw ct_draw : Value}
    {f_pick : Addr} {od_pick an_pick : Option Addr} {sl_pick : Array (Option Value)} {oc_pick kV_pick dc_pick pm_pick cd_pick ct_pick : Value}
    {f_far : Addr} {od_far an_far : Option Addr} {sl_far : Array (Option Value)} {oc_far kV_far dc_far pm_far cd_far ct_far : Value}
    {f_divisor : Addr} {od_divisor an_divisor : Option Addr} {sl_divisor : Array (Option Value)} {oc_divisor kV_divisor dc_divisor pm_divisor cd_divisor ct_divisor : Value}
    {f_lot : Addr} {od_lot an_lot : Option Addr} {sl_lot : Array (Option Value)} {oc_lot kV_lot dc_lot pm_lot cd_lot ct_lot : Value}
    {f_lot_at : Addr} {od_lot_at an_lot_at : Option Addr} {sl_lot_at : Array (Option Value)} {oc_lot_at kV_lot_at dc_lot_at pm_lot_at cd_lot_at ct_lot_at : Value}
    {f_lgoes : Addr} {od_lgoes an_lgoes : Option Addr} {sl_lgoes : Array (Option Value)} {oc_lgoes kV_lgoes dc_lgoes pm_lgoes cd_lgoes ct_lgoes : Value}
    {f_near : Addr} {od_near an_near : Option Addr} {sl_near : Array (Option Value)} {oc_near kV_near dc_near pm_near cd_near ct_near : Value}
    {f_met : Addr} {od_met an_met : Option Addr} {sl_met : Array (Option Value)} {oc_met kV_met dc_met pm_met cd_met ct_met : Value}
    {f_pairs : Addr} {od_pairs an_pairs : Option Addr} {sl_pairs : Array (Option Value)} {oc_pairs kV_pairs dc_pairs pm_pairs cd_pairs ct_pairs : Value}
    {f_law : Addr} {od_law an_law : Option Addr} {sl_law : Array (Option Value)} {oc_law kV_law dc_law pm_law cd_law ct_law : Value}
    (a_hands : PySem.W.nsIn K mainGlobals "hands" = some (some (.ref f_hands)))
    (l_hands : K.lookup f_hands = some ⟨oc_hands, od_hands, .func (PySem.W.fnOf "hands" "hands" (defArgs s_hands) (defBody s_hands) (defScope s_hands) .none kV_hands dc_hands pm_hands an_hands cd_hands ct_hands), sl_hands⟩)
    (c_hands : PySem.W.codeIn K cd_hands "hands" = true) (k_hands : PySem.W.keepIn K (.ref f_hands) = true)
    (a_goes : PySem.W.nsIn K mainGlobals "_goes" = some (some (.ref f_goes)))
    (l_goes : K.lookup f_goes = some ⟨oc_goes, od_goes, .func (PySem.W.fnOf "_goes" "_goes" (defArgs s_goes) (defBody s_goes) (defScope s_goes) .none kV_goes dc_goes pm_goes an_goes cd_goes ct_goes), sl_goes⟩)
    (c_goes : PySem.W.codeIn K cd_goes "_goes" = true) (k_goes : PySem.W.keepIn K (.ref f_goes) = true)
    (a_meeting : PySem.W.nsIn K mainGlobals "meeting" = some (some (.ref f_meeting)))
    (l_meeting : K.lookup f_meeting = some ⟨oc_meeting, od_meeting, .func (PySem.W.fnOf "meeting" "meeting" (defArgs s_meeting) (defBody s_meeting) (defScope s_meeting) .none kV_meeting dc_meeting pm_meeting an_meeting cd_meeting ct_meeting), sl_meeting⟩)
    (c_meeting : PySem.W.codeIn K cd_meeting "meeting" = true) (k_meeting : PySem.W.keepIn K (.ref f_meeting) = true)
    (a_deck : PySem.W.nsIn K mainGlobals "_law_deck" = some (some (.ref f_deck)))
    (l_deck : K.lookup f_deck = some ⟨oc_deck, od_deck, .func (PySem.W.fnOf "_law_deck" "_law_deck" (defArgs s_deck) (defBody s_deck) (defScope s_deck) .none kV_deck dc_deck pm_deck an_deck cd_deck ct_deck), sl_deck⟩)
    (c_deck : PySem.W.codeIn K cd_deck "_law_deck" = true) (k_deck : PySem.W.keepIn K (.ref f_deck) = true)
    (a_draw : PySem.W.nsIn K mainGlobals "_law_draw" = some (some (.ref f_draw)))
    (l_draw : K.lookup f_draw = some ⟨oc_draw, od_draw, .func (PySem.W.fnOf "_law_draw" "_law_draw" (defArgs s_draw) (defBody s_draw) (defScope s_draw) .none kV_draw dc_draw pm_draw an_draw cd_draw ct_draw), sl_draw⟩)
    (c_draw : PySem.W.codeIn K cd_draw "_law_draw" = true) (k_draw : PySem.W.keepIn K (.ref f_draw) = true)
    (a_pick : PySem.W.nsIn K mainGlobals "_law_pick" = some (some (.ref f_pick)))
    (l_pick : K.lookup f_pick = some ⟨oc_pick, od_pick, .func (PySem.W.fnOf "_law_pick" "_law_pick" (defArgs s_pick) (defBody s_pick) (defScope s_pick) .none kV_pick dc_pick pm_pick an_pick cd_pick ct_pick), sl_pick⟩)
    (c_pick : PySem.W.codeIn K cd_pick "_law_pick" = true) (k_pick : PySem.W.keepIn K (.ref f_pick) = true)
    (a_far : PySem.W.nsIn K mainGlobals "_law_far" = some (some (.ref f_far)))
    (l_far : K.lookup f_far = some ⟨oc_far, od_far, .func (PySem.W.fnOf "_law_far" "_law_far" (defArgs s_far) (defBody s_far) (defScope s_far) .none kV_far dc_far pm_far an_far cd_far ct_far), sl_far⟩)
    (c_far : PySem.W.codeIn K cd_far "_law_far" = true) (k_far : PySem.W.keepIn K (.ref f_far) = true)
    (a_divisor : PySem.W.nsIn K mainGlobals "_law_divisor" = some (some (.ref f_divisor)))
    (l_divisor : K.lookup f_divisor = some ⟨oc_divisor, od_divisor, .func (PySem.W.fnOf "_law_divisor" "_law_divisor" (defArgs s_divisor) (defBody s_divisor) (defScope s_divisor) .none kV_divisor dc_divisor pm_divisor an_divisor cd_divisor ct_divisor), sl_divisor⟩)
    (c_divisor : PySem.W.codeIn K cd_divisor "_law_divisor" = true) (k_divisor : PySem.W.keepIn K (.ref f_divisor) = true)
    (a_lot : PySem.W.nsIn K mainGlobals "_law_lot" = some (some (.ref f_lot)))
    (l_lot : K.lookup f_lot = some ⟨oc_lot, od_lot, .func (PySem.W.fnOf "_law_lot" "_law_lot" (defArgs s_lot) (defBody s_lot) (defScope s_lot) .none kV_lot dc_lot pm_lot an_lot cd_lot ct_lot), sl_lot⟩)
    (c_lot : PySem.W.codeIn K cd_lot "_law_lot" = true) (k_lot : PySem.W.keepIn K (.ref f_lot) = true)
    (a_lot_at : PySem.W.nsIn K mainGlobals "_law_lot_at" = some (some (.ref f_lot_at)))
    (l_lot_at : K.lookup f_lot_at = some ⟨oc_lot_at, od_lot_at, .func (PySem.W.fnOf "_law_lot_at" "_law_lot_at" (defArgs s_lot_at) (defBody s_lot_at) (defScope s_lot_at) .none kV_lot_at dc_lot_at pm_lot_at an_lot_at cd_lot_at ct_lot_at), sl_lot_at⟩)
    (c_lot_at : PySem.W.codeIn K cd_lot_at "_law_lot_at" = true) (k_lot_at : PySem.W.keepIn K (.ref f_lot_at) = true)
    (a_lgoes : PySem.W.nsIn K mainGlobals "_law_goes" = some (some (.ref f_lgoes)))
    (l_lgoes : K.lookup f_lgoes = some ⟨oc_lgoes, od_lgoes, .func (PySem.W.fnOf "_law_goes" "_law_goes" (defArgs s_lgoes) (defBody s_lgoes) (defScope s_lgoes) .none kV_lgoes dc_lgoes pm_lgoes an_lgoes cd_lgoes ct_lgoes), sl_lgoes⟩)
    (c_lgoes : PySem.W.codeIn K cd_lgoes "_law_goes" = true) (k_lgoes : PySem.W.keepIn K (.ref f_lgoes) = true)
    (a_near : PySem.W.nsIn K mainGlobals "_law_near" = some (some (.ref f_near)))
    (l_near : K.lookup f_near = some ⟨oc_near, od_near, .func (PySem.W.fnOf "_law_near" "_law_near" (defArgs s_near) (defBody s_near) (defScope s_near) .none kV_near dc_near pm_near an_near cd_near ct_near), sl_near⟩)
    (c_near : PySem.W.codeIn K cd_near "_law_near" = true) (k_near : PySem.W.keepIn K (.ref f_near) = true)
    (a_met : PySem.W.nsIn K mainGlobals "_law_met" = some (some (.ref f_met)))
    (l_met : K.lookup f_met = some ⟨oc_met, od_met, .func (PySem.W.fnOf "_law_met" "_law_met" (defArgs s_met) (defBody s_met) (defScope s_met) .none kV_met dc_met pm_met an_met cd_met ct_met), sl_met⟩)
    (c_met : PySem.W.codeIn K cd_met "_law_met" = true) (k_met : PySem.W.keepIn K (.ref f_met) = true)
    (a_pairs : PySem.W.nsIn K mainGlobals "_law_pairs" = some (some (.ref f_pairs)))
    (l_pairs : K.lookup f_pairs = some ⟨oc_pairs, od_pairs, .func (PySem.W.fnOf "_law_pairs" "_law_pairs" (defArgs s_pairs) (defBody s_pairs) (defScope s_pairs) .none kV_pairs dc_pairs pm_pairs an_pairs cd_pairs ct_pairs), sl_pairs⟩)
    (c_pairs : PySem.W.codeIn K cd_pairs "_law_pairs" = true) (k_pairs : PySem.W.keepIn K (.ref f_pairs) = true)
    (a_law : PySem.W.nsIn K mainGlobals "law" = some (some (.ref f_law)))
    (l_law : K.lookup f_law = some ⟨oc_law, od_law, .func (PySem.W.fnOf "law" "law" (defArgs s_law) (defBody s_law) (defScope s_law) .none kV_law dc_law pm_law an_law cd_law ct_law), sl_law⟩)
    (c_law : PySem.W.codeIn K cd_law "law" = true) (k_law : PySem.W.keepIn K (.ref f_law) = true)
    (z_abs : PySem.W.nsIn K mainGlobals "abs" = some none)
    (z_enumerate : PySem.W.nsIn K mainGlobals "enumerate" = some none)
    (z_int : PySem.W.nsIn K mainGlobals "int" = some none)
    (z_len : PySem.W.nsIn K mainGlobals "len" = some none)
    (z_max : PySem.W.nsIn K mainGlobals "max" = some none)
    (z_range : PySem.W.nsIn K mainGlobals "range" = some none)
    (z_repr : PySem.W.nsIn K mainGlobals "repr" = some none)
    (z_sum : PySem.W.nsIn K mainGlobals "sum" = some none)
    (z_tuple : PySem.W.nsIn K mainGlobals "tuple" = some none)
    : ∃ fd : FuncData, (∀ (s : Shared) (v : Value), BindsTo s fd ⟨[v], []⟩ [("_law_script", v)]) ∧ ∀ base : Heap, K.In base → base.Ns mainGlobals mg → FnG l.prog w K mg base 4 fa fd ["_law_script"] (spLaw K) := by
  have e := hfa.symm.trans (PySem.W.mg_of X G a_law)
  cases e
  let T : Tp K mg := {
    a_hands := f_hands, d_hands := _, F_hands := fun_mk (st := s_hands) l_hands c_hands k_hands, g_hands := PySem.W.mg_of X G a_hands,
    a_goes := f_goes, d_goes := _, F_goes := fun_mk (st := s_goes) l_goes c_goes k_goes, g_goes := PySem.W.mg_of X G a_goes,
    a_meeting := f_meeting, d_meeting := _, F_meeting := fun_mk (st := s_meeting) l_meeting c_meeting k_meeting, g_meeting := PySem.W.mg_of X G a_meeting,
    a_deck := f_deck, d_deck := _, F_deck := fun_mk (st := s_deck) l_deck c_deck k_deck, g_deck := PySem.W.mg_of X G a_deck,
    a_draw := f_draw, d_draw := _, F_draw := fun_mk (st := s_draw) l_draw c_draw k_draw, g_draw := PySem.W.mg_of X G a_draw,
    a_pick := f_pick, d_pick := _, F_pick := fun_mk (st := s_pick) l_pick c_pick k_pick, g_pick := PySem.W.mg_of X G a_pick,
    a_far := f_far, d_far := _, F_far := fun_mk (st := s_far) l_far c_far k_far, g_far := PySem.W.mg_of X G a_far,
    a_divisor := f_divisor, d_divisor := _, F_divisor := fun_mk (st := s_divisor) l_divisor c_divisor k_divisor, g_divisor := PySem.W.mg_of X G a_divisor,
    a_lot := f_lot, d_lot := _, F_lot := fun_mk (st := s_lot) l_lot c_lot k_lot, g_lot := PySem.W.mg_of X G a_lot,
    a_lot_at := f_lot_at, d_lot_at := _, F_lot_at := fun_mk (st := s_lot_at) l_lot_at c_lot_at k_lot_at, g_lot_at := PySem.W.mg_of X G a_lot_at,
    a_lgoes := f_lgoes, d_lgoes := _, F_lgoes := fun_mk (st := s_lgoes) l_lgoes c_lgoes k_lgoes, g_lgoes := PySem.W.mg_of X G a_lgoes,
    a_near := f_near, d_near := _, F_near := fun_mk (st := s_near) l_near c_near k_near, g_near := PySem.W.mg_of X G a_near,
    a_met := f_met, d_met := _, F_met := fun_mk (st := s_met) l_met c_met k_met, g_met := PySem.W.mg_of X G a_met,
    a_pairs := f_pairs, d_pairs := _, F_pairs := fun_mk (st := s_pairs) l_pairs c_pairs k_pairs, g_pairs := PySem.W.mg_of X G a_pairs,
    a_law := fa, d_law := _, F_law := fun_mk (st := s_law) l_law c_law k_law, g_law := PySem.W.mg_of X G a_law,
    n_abs := PySem.W.mg_none_of X G z_abs,
    n_enumerate := PySem.W.mg_none_of X G z_enumerate,
    n_int := PySem.W.mg_none_of X G z_int,
    n_len := PySem.W.mg_none_of X G z_len,
    n_max := PySem.W.mg_none_of X G z_max,
    n_range := PySem.W.mg_none_of X G z_range,
    n_repr := PySem.W.mg_none_of X G z_repr,
    n_sum := PySem.W.mg_none_of X G z_sum,
    n_tuple := PySem.W.mg_none_of X G z_tuple }
  exact ⟨T.d_law, fun s v => .of_eq rfl, fun base _ _ => ok_law T⟩
end G19
open PySem PySem.W PyProof.Rows
set_option maxHeartbeats 0 in
theorem PySem.Challenge.cw_leastmakers_k19_hands_and_meetings_holds : PySem.Challenge.rw_leastmakers_k19_hands_and_meetings.Holds := by
  w_on; o_law; k_head; (case hw => w_witness2)
  k_fill
  refine G1.walkG (l := PySem.Challenge.rw_leastmakers_k19_hands_and_meetings) (n := 63) (k := 4) (x := "_law_script") (sp := fun K => G19.spLaw K) rfl (by decide) rfl ⟨rfl, by decide, by decide⟩ (fun w h Y => PySem.W.kIn_of Y) ?F (fun K H a ns hl _ hS => ⟨a, ns, rfl, hS, hl, fun _ => rfl⟩)
  case F =>
    intro w mg fa h KX G hmg
    refine' G19.all_mk KX G hmg ?a_hands ?l_hands ?c_hands ?k_hands ?a_goes ?l_goes ?c_goes ?k_goes ?a_meeting ?l_meeting ?c_meeting ?k_meeting ?a_deck ?l_deck ?c_deck ?k_deck ?a_draw ?l_draw ?c_draw ?k_draw ?a_pick ?l_pick ?c_pick ?k_pick ?a_far ?l_far ?c_far ?k_far ?a_divisor ?l_divisor ?c_divisor ?k_divisor ?a_lot ?l_lot ?c_lot ?k_lot ?a_lot_at ?l_lot_at ?c_lot_at ?k_lot_at ?a_lgoes ?l_lgoes ?c_lgoes ?k_lgoes ?a_near ?l_near ?c_near ?k_near ?a_met ?l_met ?c_met ?k_met ?a_pairs ?l_pairs ?c_pairs ?k_pairs ?a_law ?l_law ?c_law ?k_law ?z_abs ?z_enumerate ?z_int ?z_len ?z_max ?z_range ?z_repr ?z_sum ?z_tuple
    (case a_hands => k_is); (case l_hands => k_is); (case c_hands => k_is); (case k_hands => k_is); (case a_goes => k_is); (case l_goes => k_is)
    (case c_goes => k_is); (case k_goes => k_is); (case a_meeting => k_is); (case l_meeting => k_is); (case c_meeting => k_is); (case k_meeting => k_is)
    (case a_deck => k_is); (case l_deck => k_is); (case c_deck => k_is); (case k_deck => k_is); (case a_draw => k_is); (case l_draw => k_is)
    (case c_draw => k_is); (case k_draw => k_is); (case a_pick => k_is); (case l_pick => k_is); (case c_pick => k_is); (case k_pick => k_is)
    (case a_far => k_is); (case l_far => k_is); (case c_far => k_is); (case k_far => k_is); (case a_divisor => k_is); (case l_divisor => k_is)
    (case c_divisor => k_is); (case k_divisor => k_is); (case a_lot => k_is); (case l_lot => k_is); (case c_lot => k_is); (case k_lot => k_is)
    (case a_lot_at => k_is); (case l_lot_at => k_is); (case c_lot_at => k_is); (case k_lot_at => k_is); (case a_lgoes => k_is); (case l_lgoes => k_is)
    (case c_lgoes => k_is); (case k_lgoes => k_is); (case a_near => k_is); (case l_near => k_is); (case c_near => k_is); (case k_near => k_is)
    (case a_met => k_is); (case l_met => k_is); (case c_met => k_is); (case k_met => k_is); (case a_pairs => k_is); (case l_pairs => k_is)
    (case c_pairs => k_is); (case k_pairs => k_is); (case a_law => k_is); (case l_law => k_is); (case c_law => k_is); (case k_law => k_is)
    (case z_abs => k_is); (case z_enumerate => k_is); (case z_int => k_is); (case z_len => k_is); (case z_max => k_is); (case z_range => k_is)
    (case z_repr => k_is); (case z_sum => k_is); (case z_tuple => k_is)
