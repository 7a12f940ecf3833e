import PyProof.Rows.All
import Wide.All
import OpenK.AllK
import Wide.FinOn
import HandS.ForMost
import HandS.StrMore
import HandS.Wide
import HandS.IsInst
import HandS.Codes
import HandS.Conv
import HandS.Style
import HandS.Ends
import PySem.Challenge.RW_leastmakers_k03_signs_near_and_far
set_option Elab.async false
set_option linter.all false
set_option maxRecDepth 100000
set_option maxHeartbeats 8000000
/-! repr of whole data, and promises of defs that call it -/
namespace G1
open PySem PySem.Spec PyProof.Rows L2

/-- a promise of a def where no repr is under way around the call -/
structure FnG (P : Program) (w : World) (K : PySem.W.Frag) (mg : Str → Option Value) (base : Heap) (k : Nat) (f : Addr) (fd : FuncData) (ps : List Str) (sp : Sp) : Prop where
  cnt : ∀ vs H Q E, sp vs H Q E → vs.length = ps.length
  go : ∀ (A : Around) (ou : List Env) (s : Shared) (H : Hp) (ar : Args) (us : List Value) (vs : List V) (Q : VK) (E : XK), A.guards = some [] → Room k A →
    Env0 P w K mg base A ou s H → BindsTo s fd ar (ps.zip us) → Vals vs us → sp vs H Q E →
    codeAny (model P w) A (.call (.ref f) ar) (CR CX0 ou P w H s Q E) s

theorem FnG.of {P : Program} {w : World} {K : PySem.W.Frag} {mg : Str → Option Value} {base : Heap} {k : Nat} {f : Addr} {fd : FuncData} {ps : List Str} {sp : Sp}
    (F : FnOk P w K mg base CX0 k f fd ps sp) : FnG P w K mg base k f fd ps sp :=
  ⟨F.len, fun A ou s H ar us vs Q E _ hr he hb hv hs => F.run A ou s H ar us vs Q E hr he hb hv hs⟩

section
variable {P : Program} {w : World} {K : PySem.W.Frag} {mg : Str → Option Value} {base : Heap}
theorem fnG_of {x qual : Str} {st : Stmt} {f : Addr} {fd : FuncData} {N ps : List Str} {k : Nat} {sp : Sp} (F : Fun K x qual st f fd) (S : FnScope N ps (defScope st))
    (cnt : ∀ vs H Q E, sp vs H Q E → vs.length = ps.length)
    (body : ∀ (cdv : Value) (A : Around) (ou : List Env) (s : Shared) (H : Hp) (vs : List V) (Q : VK) (E : XK), A.guards = some [] →
      Room k (A.deeper (envOfC qual (defScope st) s.heap.objs.size f cdv)) → sp vs H Q E →
      ∃ t, PSs (cxOf CX0 P w K mg base N qual (defScope st) f cdv A ou s H E).nox (defBody st) t ∧
        t { nx := fun _ H' => Q .non H', rt := Q } (start N vs) H) :
    FnG P w K mg base (k + 1) f fd ps sp := by
  obtain ⟨oc, od, kV, doc, pm, an, cdv, ct, osl, rfl, lk, hcd⟩ := F.ex
  refine ⟨cnt, fun A ou s H ar us vs Q E hgd hr e0 hb rv hsp => ?_⟩
  have inK : K.In s.heap := e0.mod.kin.keeps fun b o e => (e0.bs b o e).1
  have hlim : s.heap.NoLimit := e0.mod.nolimit.keeps fun b o e => (e0.bs b o e).1
  have kinds : ∀ y ∈ ps.zip us, (defScope st).names.lookup y.1 = some .local ∨
      ((defScope st).names.lookup y.1 = some .cell ∧ ((cellsFrom (s.heap.objs.size + 1) (defScope st).names []).lookup y.1).isSome = true) := by
    intro y hy
    cases S.par y.1 (List.of_mem_zip hy).1 with
    | inl q => exact Or.inl q
    | inr q => exact Or.inr ⟨q, PySem.W.cellsFrom_some _ _ _ (Or.inl q)⟩
  refine codeAny_call_function hr.depth (inK _ _ lk) rfl S.co S.gen rfl (PySem.W.codeRec_of inK hcd) (hb _ _ _ _ ?_)
  refine wpAny_newFunctionEnv_cells S.kind kinds fun env he s1 x => ?_
  subst he
  refine And.intro (hlim.keeps x.toInCall.keep) (codeAny_func ?_)
  obtain ⟨t, ht0, hq⟩ := body cdv A ou s H vs Q E hgd (hr.deeper _) hsp
  have ht := ht0.nox
  have J0 := inv_start (CX := CX0) S hr.hd e0 (cnt _ _ _ _ hsp) rv x (E := E)
  refine wpAny_mono (ht.run [] s1 (start N vs) H _ J0 hq) ?_ (fun e s' hs => hs)
  intro fl s' hs
  cases fl with
  | ret u =>
    obtain ⟨v, σ', H', J, r1, q⟩ := hs
    exact ⟨v, H', J.os, J.bare, J.base, J.hok, r1, q⟩
  | next =>
    obtain ⟨σ', H', J, q⟩ := hs
    exact ⟨V.non, H', J.os, J.bare, J.base, J.hok, rfl, q⟩
  | brk => exact hs.choose_spec.choose_spec.2.elim
  | cont => exact hs.choose_spec.choose_spec.2.elim
end

section
variable {X : Cx} {k : Nat} {f : Addr} {fd : FuncData} {ps ks : List Str} {sp : Sp} {dvs : List V} {ds : List Value} {E : XK} {x : Str} {p pos : Pos} {e : Expr} {es : List Expr} {t : TA}
/-- f(e, ..) of such a def -/
theorem pe_callGd (F : FnG X.prog X.w X.K X.mg X.base k f fd ps sp) (hgd : X.A.guards = some []) (hr : Room k X.A) (hg : Gl X x) (hm : X.mg x = some (.ref f)) (hk : PySem.W.keepIn X.K (.ref f) = true)
    (hb : Binds X.K fd ps []) (ha : PA X (e :: es) t) (hdb : (x == ("__debug__" : Str)) = false := by decide)
    (he : starEach (e :: es) X.env = (false, eval e X.env) :: starEach es X.env := by rfl) (hpl : (backTo pos (starEach es X.env)).any (·.1) = false := by rfl) :
    PE X (.Call (.Name x p) (e :: es) [] pos) (fun σ H Q => t σ H fun vs H1 => sp vs H1 Q E) := by
  refine ⟨fun pins s σ H Q I h => wpAny_Call_Name_kw (ld_glob I hg hm ?_ hdb)⟩
  refine PySem.W.callWith_K (h₀ := X.base) I.ok.mod.kin hk (thn (ha.run pos pins s σ H _ I h) ?_) he hpl
  intro us s1 hus
  obtain ⟨vs, H1, I1, r, q⟩ := hus
  refine ⟨I1.kIn, ?_⟩
  have hl : (us ++ []).length = ps.length := by rw [List.append_nil, ← r.length]; exact F.cnt _ _ _ _ q
  have hbt := hb s1 us I1.kIn hl
  rw [List.append_nil] at hbt
  refine wpAny_call (codeAny_mono (F.go X.A X.stack s1 H1 ⟨us, []⟩ us vs Q E hgd hr I1.env0 hbt r q) ?_)
  intro rr s' hq
  cases rr with
  | error ev => exact hq.elim
  | ok fl =>
    cases fl with
    | ret u => exact I1.after hq
    | next => exact hq.elim
    | brk => exact hq.elim
    | cont => exact hq.elim

/-- repr of a list or a tuple of plain data -/
def rRepr (K : PySem.W.Frag) : List V → Hp → VK → Prop := fun xs H Q => ∃ (a : Addr) (d : PyData), xs = [.ref a] ∧ Dp K H (.ref a) d ∧ d.showable = true ∧ d.hasDict = false ∧ d.depth ≤ 60 ∧
  d.shown.length ≤ sizeLine ∧ Q (.str d.shown) H
theorem call_reprD (hgd : X.A.guards = some []) (hu : X.A.units + 64 < cLine) : CallR X (.builtin "repr") (rRepr X.K) := by
  intro pins s σ H xs us Q I r h
  obtain ⟨a, d, rfl, hd, hs, hnd, hdp, hz, q⟩ := h
  obtain ⟨u, rfl, ru⟩ := vals1 r
  obtain rfl : u = Value.ref a := ru
  obtain ⟨as, r1⟩ := Dp.reads I d (.ref a) (.ref a) hd rfl
  refine repr_of_reads' r1 hs (fun z => by rw [hnd] at z; cases z) hgd (by omega) (fun _ _ e => e) (fun h' tu tk hk => ?_) hz
  refine ⟨.str d.shown, H, ?_, ⟨tu, rfl⟩, q⟩
  exact I.kept (t' := tk) hk
/-- x * n of a text -/
def rMulS : R2 := fun x y H Q => ∃ (z : Str) (n : Int), x = .str z ∧ y = .int n ∧ 0 ≤ n ∧ n < 2 ^ 30 ∧ z.length * n.toNat ≤ 1000000 ∧ Q (.str (Txt.mul z n)) H
end
end G1
/-! the end of a row whose law calls repr -/
namespace G1
open PySem PySem.Spec PyProof.Rows L2

theorem enterG {P : Program} {w : World} {K : PySem.W.Frag} {mg mb : Str → Option Value} {k : Nat} {fa a : Addr} {fd : FuncData} {x : Str} {sp : Sp} {s₁ : Shared} {vs : List Value} {ns : List Int}
    (inK : K.In s₁.heap) (hns : s₁.heap.Ns mainGlobals mg) (hbn : s₁.heap.Ns builtinsNs mb) (hbb : ∀ x : Str, x ≠ "__name__" → mb x = bootBuiltins x) (hlim : s₁.heap.NoLimit) (hg0 : s₁.gens = #[])
    (ha : s₁.heap.get? a = some { cls := .type "list", data := .seq vs.toArray }) (hi : IntsAre vs ns) (hl : ns.length ≤ sizeLine) (hr : Room k callerA)
    (F : ∀ base : Heap, K.In base → base.Ns mainGlobals mg → FnG P w K mg base k fa fd [x] sp)
    (hbind : ∀ (s : Shared) (u : Value), BindsTo s fd ⟨[u], []⟩ [(x, u)])
    (hsp : ∀ H : Hp, Only H → SqL K H a (ns.map V.int) → sp [.ref a] H (fun v _ => v = .bl true) fun _ _ _ => False) :
    codeAny (model P w) callerA (.call (.ref fa) ⟨[.ref a], []⟩)
      (fun r s' => r = .ok (.ret (.bool true)) ∧ OldK s₁.heap s'.heap ∧ s'.os = s₁.os ∧ AllBare s'.gens) s₁ := by
  have rv := vals_ints hi
  have lv := hi.length
  suffices core : ∀ H : Hp, Only H → SqL K H a (ns.map V.int) → HOk P w H s₁.heap → (∀ b, H b ≠ none → b = a ∧ K.lookup a = none) →
      codeAny (model P w) callerA (.call (.ref fa) ⟨[.ref a], []⟩)
        (fun r s' => r = .ok (.ret (.bool true)) ∧ OldK s₁.heap s'.heap ∧ s'.os = s₁.os ∧ AllBare s'.gens) s₁ by
    by_cases hk : K.lookup a = none
    · refine core (fun b => if b = a then some (.frz { cls := .type "list", data := .seq vs.toArray } (.lst (ns.map V.int))) else none) ?_ (Or.inl (Or.inr ⟨_, if_pos rfl⟩)) ?_ ?_
      · intro b
        by_cases hb : b = a
        · exact Or.inr ⟨_, _, if_pos hb⟩
        · exact Or.inl (if_neg hb)
      · intro b u z
        dsimp only at z
        by_cases hb : b = a
        · rw [if_pos hb] at z
          cases z
          subst hb
          exact ⟨ha, by rw [List.length_map]; exact hl, vs, _, rv, ha⟩
        · rw [if_neg hb] at z
          cases z
      · intro b z
        by_cases hb : b = a
        · exact ⟨hb, hk⟩
        · exact absurd (if_neg hb) z
    · obtain ⟨o, ho⟩ := Option.ne_none_iff_exists'.mp hk
      have e := inK a o ho
      rw [ha] at e
      cases e
      exact core (fun _ => none) (fun _ => Or.inl rfl) (Or.inr ⟨_, vs.toArray, _, ho, rfl, rfl, rfl, by rw [List.size_toArray, lv]; exact hl, by simpa using rv⟩)
        (fun b u z => by cases z) (fun b z => absurd rfl z)
  intro H hO hS hok hA
  have untr : ∀ {b : Addr} {o : Obj} {es : Array DictEntry} {ep : Nat}, s₁.heap.get? b = some o → o.data = .dict es ep → H b = none := by
    intro b o es ep e d
    by_cases q : H b = none
    · exact q
    · obtain ⟨rfl, _⟩ := hA b q
      rw [ha] at e
      cases e
      exact nomatch d
  have tohid : ∀ {b : Addr} {m : Str → Option Value}, s₁.heap.Ns b m → (hidT s₁.heap H).Ns b m := by
    rintro b m ⟨o, es, ep, e, d, r⟩
    exact ⟨o, es, ep, hidT_get e (untr e d), d, r⟩
  have hKb : K.In (hidT s₁.heap H) := by
    intro b o e
    refine hidT_get (inK b o e) ?_
    by_cases q : H b = none
    · exact q
    · obtain ⟨rfl, z⟩ := hA b q
      rw [z] at e
      cases e
  obtain ⟨mc, l1, l2⟩ := hlim
  have hM : Mod K mg (hidT s₁.heap H) := ⟨hKb, tohid hns, ⟨mb, tohid hbn, hbb⟩, ⟨mc, tohid l1, l2⟩⟩
  have e0 : Env0 P w K mg (hidT s₁.heap H) callerA [] s₁ H :=
    ⟨rfl, hM, fun b o e => of_hidT e, Nat.le_of_eq (hidT_size _ _), trivial, fun b hb => (List.not_mem_nil hb).elim, hok, .of_eq hg0⟩
  refine codeAny_mono ((F _ hKb (tohid hns)).go callerA [] s₁ H ⟨[.ref a], []⟩ [.ref a] [.ref a] _ _ rfl hr e0 (hbind s₁ (.ref a)) (.cons rfl .nil) (hsp H hO hS)) ?_
  intro r s' h
  cases r with
  | error e => exact h.elim
  | ok fl =>
    cases fl with
    | next => exact h.elim
    | brk => exact h.elim
    | cont => exact h.elim
    | ret u =>
      obtain ⟨v, H', os, bare, un, hok', r', q⟩ := h
      subst q
      obtain rfl : u = Value.bool true := r'
      refine ⟨rfl, OldK.of_keep (fun b o e => ?_), os, bare⟩
      rcases hO b with z | ⟨ob, xs, z⟩
      · exact un.keep b o e z (fun y => (List.not_mem_nil y).elim) List.not_mem_nil
      · obtain ⟨e1, _⟩ := hok b _ z
        obtain ⟨e2, _⟩ := hok' b _ (un.frzs b ob _ z)
        rw [e] at e1
        cases e1
        exact e2

theorem walkG {l : PySem.W.OpenLaw} {n k : Nat} {q : Program} {loose : List Str} {XP : (Str → Option Value) → Heap → Prop} {YP : World → Heap → Prop} {d : DefRec} {K : Params → PySem.W.Frag} {sp : PySem.W.Frag → Sp} {x : Str}
    (hn : l.most = some n) (hn2 : n ≤ sizeLine) (hdf : d.params.defaults = []) (hr : Room k callerA)
    (hY : ∀ (w : World) (h : Heap), YP w h → (K w.params).In h)
    (F : ∀ (w : World) (mg : Str → Option Value) (fa : Addr) (h : Heap), (K w.params).In h → h.Ns mainGlobals mg → mg d.name = some (.ref fa) →
      ∃ fd : FuncData, (∀ (s : Shared) (u : Value), BindsTo s fd ⟨[u], []⟩ [(x, u)]) ∧
        ∀ base : Heap, (K w.params).In base → base.Ns mainGlobals mg → FnG l.prog w (K w.params) mg base k fa fd [x] (sp (K w.params)))
    (hsp : ∀ (K : PySem.W.Frag) (H : Hp) (a : Addr) (ns : List Int), ns.length ≤ n → Only H → SqL K H a (ns.map V.int) → sp K [.ref a] H (fun v _ => v = .bl true) fun _ _ _ => False) :
    PySem.W.WalkO q loose XP YP l.row.toRowW d [] (fun f vs => PySem.call f vs) := by
  refine Att.attach_call hn hdf ?_
  intro w s₀ s₁ mg mb fa o pm cd doc a vs ns G Y ho hd hcd hmg hobj hints hlen hg0
  have inK := hY w _ Y
  obtain ⟨fd, hb, hF⟩ := F w mg fa _ inK G.T.g hmg
  exact enterG inK G.T.g G.T.b G.T.builtins G.T.nolimit hg0 hobj hints (Nat.le_trans hlen hn2) hr hF hb (fun H hO hS => hsp _ H a ns hlen hO hS)
end G1
/-! texts of the signs 0 and 1, as lists of bools -/
namespace G1
open PySem PySem.Spec PyProof.Rows L2

def cB (b : Bool) : Nat := if b then 49 else 48
def B (l : List Bool) : Str := SX.S (l.map cB)
theorem cB_inj {a b : Bool} (h : cB a = cB b) : a = b := by
  cases a <;> cases b <;> first | rfl | (exact absurd h (by decide))
theorem map_cB_inj : ∀ {l m : List Bool}, l.map cB = m.map cB → l = m
  | [], [], _ => rfl
  | [], _ :: _, h => by cases h
  | _ :: _, [], h => by cases h
  | a :: l, b :: m, h => by
    rw [List.map_cons, List.map_cons] at h
    injection h with h1 h2
    rw [cB_inj h1, map_cB_inj h2]
theorem B_inj {l m : List Bool} (h : B l = B m) : l = m := map_cB_inj (SX.S_inj h)
theorem B_dec (l m : List Bool) : decide (V.str (B l) = V.str (B m)) = decide (l = m) := by
  by_cases h : l = m
  · rw [h, decide_eq_true rfl, decide_eq_true rfl]
  · rw [decide_eq_false h, decide_eq_false fun e => h (B_inj (V.str.inj e))]
theorem B_len (l : List Bool) : (B l).length = l.length := by
  unfold B
  rw [SX.S_len, List.length_map]
theorem B_cps (l : List Bool) : (B l).cps.toList = l.map cB := rfl
theorem B_app (l m : List Bool) : B l ++ B m = B (l ++ m) := by
  unfold B
  rw [SX.S_cat, List.map_append]
theorem B_nil : ("" : Str) = B [] := by decide +kernel
theorem B_0 : ("0" : Str) = B [false] := by decide +kernel
theorem B_1 : ("1" : Str) = B [true] := by decide +kernel
theorem B_one (b : Bool) : (⟨#[cB b]⟩ : Str) = B [b] := by cases b <;> decide +kernel
theorem B_str0 : (Str.ofString (toString (0 : Int))) = B [false] := by decide +kernel
theorem B_str1 : (Str.ofString (toString (1 : Int))) = B [true] := by decide +kernel
theorem B_str (i : Int) (h0 : 0 ≤ i) (h2 : i < 2) : (Str.ofString (toString i)) = B [decide (i = 1)] := by
  have h : i = 0 ∨ i = 1 := by omega
  rcases h with rfl | rfl
  · exact B_str0
  · exact B_str1

/-! ### slices -/
theorem B_cut (l : List Bool) (lo hi : Option Int) : cutS (B l) lo hi = B ((l.drop (HT.sIx l.length 0 lo)).take (HT.sIx l.length l.length hi - HT.sIx l.length 0 lo)) := by
  unfold cutS B
  rw [SX.S_len, List.length_map, ← List.map_drop, ← List.map_take]
theorem sIx_of (n d : Nat) {i : Int} (h : 0 ≤ i) : HT.sIx n d (some i) = min i.toNat n := by
  show (if i < 0 then (i + (n : Int)).toNat else min i.toNat n) = _
  rw [if_neg (by omega)]
theorem B_to (l : List Bool) {j : Int} (h : 0 ≤ j) : cutS (B l) none (some j) = B (l.take j.toNat) := by
  rw [B_cut, sIx_of _ _ h]
  show B ((l.drop 0).take (min j.toNat l.length - 0)) = _
  rw [List.drop_zero, Nat.sub_zero, ← List.take_eq_take_min]
theorem B_from (l : List Bool) {i : Int} (h : 0 ≤ i) : cutS (B l) (some i) none = B (l.drop i.toNat) := by
  rw [B_cut, sIx_of _ _ h]
  show B ((l.drop (min i.toNat l.length)).take (l.length - min i.toNat l.length)) = _
  rw [List.take_of_length_le (by rw [List.length_drop]; omega)]
  by_cases hi : i.toNat ≤ l.length
  · rw [Nat.min_eq_left hi]
  · rw [Nat.min_eq_right (by omega), List.drop_length, List.drop_of_length_le (by omega)]
theorem B_mid (l : List Bool) {i j : Int} (h : 0 ≤ i) (hj : 0 ≤ j) : cutS (B l) (some i) (some j) = B ((l.take j.toNat).drop i.toNat) := by
  rw [B_cut, sIx_of _ _ h, sIx_of _ _ hj]
  congr 1
  apply List.ext_getElem?
  intro k
  rw [List.getElem?_take, List.getElem?_drop, List.getElem?_drop, List.getElem?_take]
  by_cases hi : i.toNat ≤ l.length
  · rw [Nat.min_eq_left hi]
    by_cases hj2 : j.toNat ≤ l.length
    · rw [Nat.min_eq_left hj2]
      by_cases h3 : k < j.toNat - i.toNat
      · rw [if_pos h3, if_pos (by omega)]
      · rw [if_neg h3, if_neg (by omega)]
    · rw [Nat.min_eq_right (by omega)]
      by_cases h3 : k < l.length - i.toNat
      · rw [if_pos h3, if_pos (by omega)]
      · rw [if_neg h3]
        split
        · exact (List.getElem?_eq_none (by omega)).symm
        · rfl
  · have hm : min i.toNat l.length = l.length := Nat.min_eq_right (Nat.le_of_lt (Nat.lt_of_not_le hi))
    rw [hm, List.getElem?_eq_none (by omega), List.getElem?_eq_none (by omega)]
    split <;> split <;> rfl

/-! ### signs -/
theorem B_at (l : List Bool) {i : Int} {k : Nat} {b : Bool} (hi : i = (k : Int)) (h : l[k]? = some b) : atI (B l).cps.toList i = some (cB b) := by
  subst hi
  refine atI_nat ?_
  rw [B_cps, List.getElem?_map, h]
  rfl
theorem B_atNeg (l : List Bool) {i : Int} {k : Nat} {b : Bool} (hi : i = -1 - (k : Int)) (hk : k < l.length) (h : l[l.length - 1 - k]? = some b) : atI (B l).cps.toList i = some (cB b) := by
  unfold atI ixN
  have e1 : (B l).cps.toList.length = l.length := by rw [B_cps, List.length_map]
  rw [e1, if_neg (by omega), if_pos (by omega)]
  show (B l).cps.toList[(i + (l.length : Int)).toNat]? = _
  rw [show (i + (l.length : Int)).toNat = l.length - 1 - k by omega, B_cps, List.getElem?_map, h]
  rfl

/-! ### many times -/
def rep (n : Nat) (l : List Bool) : List Bool := (List.replicate n l).flatten
theorem rep_zero (l : List Bool) : rep 0 l = [] := rfl
theorem rep_succ (n : Nat) (l : List Bool) : rep (n + 1) l = l ++ rep n l := by
  unfold rep
  rw [List.replicate_succ, List.flatten_cons]
theorem rep_length (n : Nat) (l : List Bool) : (rep n l).length = n * l.length := by
  induction n with
  | zero => rw [rep_zero, Nat.zero_mul]; rfl
  | succ n ih => rw [rep_succ, List.length_append, ih, Nat.succ_mul, Nat.add_comm]
theorem rep_get (n : Nat) (l : List Bool) (i : Nat) (h : i < n * l.length) : (rep n l)[i]? = l[i % l.length]? := by
  induction n generalizing i with
  | zero => rw [Nat.zero_mul] at h; omega
  | succ n ih =>
    rw [rep_succ]
    by_cases hi : i < l.length
    · rw [List.getElem?_append_left hi, Nat.mod_eq_of_lt hi]
    · have h1 : l.length ≤ i := by omega
      rw [List.getElem?_append_right h1, ih (i - l.length) (by rw [Nat.succ_mul] at h; omega), ← Nat.mod_eq_sub_mod h1]
theorem foldl_app (c : Array Nat) : ∀ (n : Nat) (acc : Array Nat), ((List.replicate n c).foldl (· ++ ·) acc).toList = acc.toList ++ (List.replicate n c.toList).flatten
  | 0, acc => by simp
  | n + 1, acc => by
    rw [List.replicate_succ, List.foldl_cons, foldl_app c n, List.replicate_succ, List.flatten_cons, Array.toList_append, List.append_assoc]
theorem map_rep (n : Nat) (l : List Bool) : (rep n l).map cB = (List.replicate n (l.map cB)).flatten := by
  induction n with
  | zero => rfl
  | succ n ih => rw [rep_succ, List.map_append, ih, List.replicate_succ, List.flatten_cons]
theorem B_mul (l : List Bool) {n : Int} (h : 0 ≤ n) : Txt.mul (B l) n = B (rep n.toNat l) := by
  unfold Txt.mul
  by_cases h1 : n < 1
  · rw [if_pos h1, show n.toNat = 0 by omega, rep_zero]
    rfl
  · rw [if_neg h1]
    by_cases h2 : (n == 1 || (B l).length == 0) = true
    · rw [if_pos h2]
      rw [Bool.or_eq_true, beq_iff_eq, beq_iff_eq, B_len] at h2
      rcases h2 with h2 | h2
      · subst h2
        show B l = B (rep 1 l)
        rw [rep_succ, rep_zero, List.append_nil]
      · rw [List.length_eq_zero_iff] at h2
        subst h2
        congr 1
        have := rep_length n.toNat []
        rw [List.length_nil, Nat.mul_zero, List.length_eq_zero_iff] at this
        exact this.symm
    · rw [if_neg h2]
      unfold B
      rw [map_rep]
      refine TL.ext_tl ?_
      show (List.foldl (· ++ ·) #[] (List.replicate n.toNat (SX.S (l.map cB)).cps)).toList = _
      rw [foldl_app]
      simp [TL.tl]

/-! ### joined -/
theorem join_nil (ls : List (List Bool)) : Txt.join (B []) (ls.map B) = B ls.flatten := by
  have e : ls.map B = (ls.map (List.map cB)).map SX.S := by rw [List.map_map]; rfl
  rw [e]
  show Txt.join (SX.S []) _ = _
  rw [SX.join_S]
  unfold B
  congr 1
  have key : ∀ ms : List (List Nat), TL.joinL [] ms = ms.flatten := by
    intro ms
    induction ms with
    | nil => rfl
    | cons m ms ih =>
      cases ms with
      | nil => simp [TL.joinL]
      | cons k ks =>
        rw [List.flatten_cons, ← ih]
        simp [TL.joinL]
  rw [key, ← List.map_flatten]
end G1
namespace G1
open PySem PySem.Spec PyProof.Rows L2
section
variable {X : Cx}
theorem tooLong_no {n : Nat} (h : n ≤ 1000000) : Builtin.Str.tooLong n = false := by
  unfold Builtin.Str.tooLong
  rw [decide_eq_false_iff_not]
  exact Nat.not_lt.mpr (Nat.le_trans h (by decide))
theorem op_mulS : OpR X (binaryOp .Mult) rMulS := by
  intro pins s σ H x y v u Q I rx ry h
  obtain ⟨z, n, rfl, rfl, h0, h1, h2, q⟩ := h
  obtain ⟨t, rfl⟩ := rx
  obtain ⟨t2, rfl⟩ := ry
  have hb : z.length = 0 ∨ n.toNat = 0 ∨ (z.length ≤ 1000000) := by
    rcases Nat.eq_zero_or_pos z.length with e | e
    · exact .inl e
    · rcases Nat.eq_zero_or_pos n.toNat with e2 | e2
      · exact .inr (.inl e2)
      · refine .inr (.inr (Nat.le_trans ?_ h2))
        exact Nat.le_mul_of_pos_right _ e2
  refine PySem.SB.mul ⟨?_, fun a b c => ?_, fun a b => tooLong_no h2⟩ fun t' k => ⟨.str (Txt.mul z n), H, I.tok _, ⟨_, rfl⟩, q⟩
  · rw [Bool.or_eq_false_iff]
    exact ⟨decide_eq_false (by omega), decide_eq_false (by omega)⟩
  · rw [Bool.or_eq_false_iff] at b
    have hz : z.length ≠ 0 := by
      have := b.2
      simpa using this
    have hz2 : (z.length : Int) ≤ 1000000 := by omega
    have h3 : (2 ^ 63 - 1 : Int) / n ≥ 1000000 := by
      apply Int.le_ediv_of_mul_le (by omega)
      omega
    omega
end
theorem szM {n : Nat} (h : n ≤ 1000000) : n ≤ sizeLine := Nat.le_trans h (by decide)
end G1
/-! calls by keywords alone; repr of a truth -/
namespace G1
open PySem PySem.Spec PyProof.Rows L2
section
variable {X : Cx} {CX : CXT} {k : Nat} {f : Addr} {fd : FuncData} {ps ks : List Str} {sp : Sp} {E : XK} {x : Str} {p pos : Pos} {kws : List Keyword} {tk : TA}
variable {g : List Value → List Value → List Value} {gV : List V → List V → List V}
/-- f(k = v, ..) -/
theorem pe_callK0 (F : FnOk X.prog X.w X.K X.mg X.base CX k f fd ps sp) (hr : Room k X.A) (hg : Gl X x) (hm : X.mg x = some (.ref f)) (hk : PySem.W.keepIn X.K (.ref f) = true) (hb : KBinds X.K fd ps ks g gV) (hx : Passes CX X E)
    (hkw : PK X kws tk) (hall : (backToKw pos (keywordEach kws X.env)).all (·.1.isSome) = true := by rfl) (hks : (backToKw pos (keywordEach kws X.env)).filterMap (·.1) = ks := by rfl)
    (hdb : (x == ("__debug__" : Str)) = false := by decide)
    (hpl : ((backTo pos (starEach [] X.env)).any (·.1) || (backToKw pos (keywordEach kws X.env)).any (·.1.isNone)) = false := by rfl) :
    PE X (.Call (.Name x p) [] kws pos) (fun σ H Q => tk σ H fun zs H1 => sp (gV [] zs) H1 Q E) := by
  refine ⟨fun pins s σ H Q I h => wpAny_Call_Name_kw (ld_glob I hg hm ?_ hdb)⟩
  refine PySem.W.callWith_KW0 (h₀ := X.base) I.ok.mod.kin hk hall (thn (hkw.run pos pins s σ H _ I h) ?_) hpl
  intro ws s2 hws
  obtain ⟨zs, H2, I2, rz, q2⟩ := hws
  refine ⟨I2.kIn, ?_⟩
  rw [hks]
  exact run_fnk (us := []) (vs := []) F hr hb hx I2 .nil rz q2
end
/-- two keywords, the second parameter's first -/
def swapW {α : Type} : List α → List α → List α
  | [], a :: b :: _ => [b, a]
  | _, _ => []
theorem kbinds_swap {K : PySem.W.Frag} {fd : FuncData} {p0 p1 : Str}
    (h : ∀ a b : Value, bindArgs fd ⟨[], [(p1, a), (p0, b)]⟩ = pure [(p0, b), (p1, a)]) : KBinds K fd [p0, p1] [p1, p0] swapW swapW := by
  refine ⟨fun s us ws _ hl => ?_, fun {vs us zs ws} r1 r2 => ?_⟩
  · cases us with
    | cons u us => cases hl
    | nil =>
      cases ws with
      | nil => cases hl
      | cons a ws =>
        cases ws with
        | nil => cases hl
        | cons b ws => exact .of_eq (h a b)
  · cases r1 with
    | cons q t => exact .nil
    | nil =>
      cases r2 with
      | nil => exact .nil
      | cons q1 t1 =>
        cases t1 with
        | nil => exact .nil
        | cons q2 t2 => exact .cons q2 (.cons q1 .nil)
section
variable {X : Cx}
theorem call_reprB : CallR X (.builtin "repr") (fun xs H Q => ∃ b : Bool, xs = [.bl b] ∧ Q (.str (if b then "True" else "False")) H) := by
  intro pins s σ H xs us Q I r h
  obtain ⟨b, rfl, q⟩ := h
  obtain ⟨u, rfl, ru⟩ := vals1 r
  obtain rfl : u = Value.bool b := ru
  exact PySem.P.repr_of_bool ⟨.str _, H, I.tok _, ⟨_, rfl⟩, q⟩
end
end G1
namespace G1
open PySem PySem.Spec PyProof.Rows L2
theorem cB_small (b : Bool) : cB b < 16 ^ 8 := by cases b <;> decide
theorem leaf_B (l : List Bool) : PyData.leavesShort 8 (.str (B l)) = true := by
  simp only [PyData.leavesShort, List.all_eq_true, decide_eq_true_eq]
  intro c hc
  rw [B_cps] at hc
  obtain ⟨b, _, rfl⟩ := List.mem_map.mp hc
  exact cB_small b
theorem w_B (l : List Bool) : PyData.weight (.str (B l)) = l.length := by
  simp only [PyData.weight]
  exact B_len l
/-- repr of one object, read as data that is not great -/
theorem go_repr {K : PySem.W.Frag} {H : Hp} {R : PyData → Prop} {a : Addr} (d : PyData) (hd : Dp K H (.ref a) d) (h1 : d.showable = true) (h2 : d.hasDict = false) (h3 : d.depth ≤ 60) (h4 : d.leavesShort 8 = true) (h5 : d.weight ≤ 2 ^ 20) (q : R d) :
    ∃ (a' : Addr) (d' : PyData), [V.ref a] = [V.ref a'] ∧ Dp K H (.ref a') d' ∧ d'.showable = true ∧ d'.hasDict = false ∧ d'.depth ≤ 60 ∧ d'.shown.length ≤ sizeLine ∧ R d' :=
  ⟨a, d, rfl, hd, h1, h2, h3, PyData.shown_fits (Nat.le_refl _) (by decide) h4 h5, q⟩
theorem str_refl (z : Str) : decide (V.str z = V.str z) = true := decide_eq_true rfl
end G1
namespace G1
open PySem PySem.Spec PyProof.Rows L2
/-- the data of a table, of lists of texts and of truths -/
def dTab (h t : List Bool) : PyData := .tuple [.str (B h), .str (B t)]
theorem dp_tab {K : PySem.W.Frag} {H : Hp} {p : Addr} {h t : List Bool} (e : H p = some (.tup [.str (B h), .str (B t)])) : Dp K H (.ref p) (dTab h t) :=
  .tup (.inl (.inl e)) (.cons (.str _) (.cons (.str _) .nil))
def dStrs (ls : List (List Bool)) : PyData := .list (ls.map fun l => .str (B l))
def dBools (bs : List Bool) : PyData := .list (bs.map PyData.bool)
theorem dpAll_strs {K : PySem.W.Frag} {H : Hp} : ∀ ls : List (List Bool), DpAll K H (ls.map fun l => V.str (B l)) (ls.map fun l => .str (B l))
  | [] => .nil
  | l :: ls => .cons (.str _) (dpAll_strs ls)
theorem dpAll_bools {K : PySem.W.Frag} {H : Hp} : ∀ bs : List Bool, DpAll K H (bs.map V.bl) (bs.map PyData.bool)
  | [] => .nil
  | b :: bs => .cons (.bl _) (dpAll_bools bs)
/-- repr of a table -/
theorem repr_tab {K : PySem.W.Frag} {H : Hp} {R : PyData → Prop} {a : Addr} {h t : List Bool} (e : H a = some (.tup [.str (B h), .str (B t)])) (h1 : h.length ≤ 5000) (t1 : t.length ≤ 5000) (q : R (dTab h t)) :
    ∃ (a' : Addr) (d' : PyData), [V.ref a] = [V.ref a'] ∧ Dp K H (.ref a') d' ∧ d'.showable = true ∧ d'.hasDict = false ∧ d'.depth ≤ 60 ∧ d'.shown.length ≤ sizeLine ∧ R d' := by
  refine go_repr (dTab h t) (dp_tab e) ?_ ?_ ?_ ?_ ?_ q
  · simp [dTab, PyData.showable, PyData.showableAll]
  · simp [dTab, PyData.hasDict, PyData.hasDictAll]
  · simp [dTab, PyData.depth, PyData.depthAll]
  · simp only [dTab, PyData.leavesShort, PyData.leavesShortAll, Bool.and_eq_true]
    exact ⟨leaf_B h, leaf_B t, trivial⟩
  · simp only [dTab, PyData.weight, PyData.weightAll]
    have e1 := w_B h
    have e2 := w_B t
    simp only [PyData.weight] at e1 e2
    omega
/-- repr of three texts -/
theorem repr_s3 {K : PySem.W.Frag} {H : Hp} {R : PyData → Prop} {a : Addr} {x y z : List Bool} (e : H a = some (.lst [.str (B x), .str (B y), .str (B z)])) (h1 : x.length ≤ 100000) (h2 : y.length ≤ 100000) (h3 : z.length ≤ 100000) (q : R (dStrs [x, y, z])) :
    ∃ (a' : Addr) (d' : PyData), [V.ref a] = [V.ref a'] ∧ Dp K H (.ref a') d' ∧ d'.showable = true ∧ d'.hasDict = false ∧ d'.depth ≤ 60 ∧ d'.shown.length ≤ sizeLine ∧ R d' := by
  refine go_repr (dStrs [x, y, z]) (.lst (.inl (.inl e)) (dpAll_strs [x, y, z])) ?_ ?_ ?_ ?_ ?_ q
  · simp [dStrs, PyData.showable, PyData.showableAll]
  · simp [dStrs, PyData.hasDict, PyData.hasDictAll]
  · simp [dStrs, PyData.depth, PyData.depthAll]
  · simp only [dStrs, List.map_cons, List.map_nil, PyData.leavesShort, PyData.leavesShortAll, Bool.and_eq_true]
    exact ⟨leaf_B x, leaf_B y, leaf_B z, trivial⟩
  · simp only [dStrs, List.map_cons, List.map_nil, PyData.weight, PyData.weightAll]
    have e1 := w_B x
    have e2 := w_B y
    have e3 := w_B z
    simp only [PyData.weight] at e1 e2 e3
    omega
theorem bools_ok : ∀ bs : List Bool, PyData.showableAll (bs.map PyData.bool) = true ∧ PyData.hasDictAll (bs.map PyData.bool) = false ∧ PyData.depthAll (bs.map PyData.bool) = 0 ∧ PyData.leavesShortAll 8 (bs.map PyData.bool) = true ∧ PyData.weightAll (bs.map PyData.bool) ≤ 2 * bs.length
  | [] => by simp [PyData.showableAll, PyData.hasDictAll, PyData.depthAll, PyData.leavesShortAll, PyData.weightAll]
  | b :: bs => by
    obtain ⟨h1, h2, h3, h4, h5⟩ := bools_ok bs
    simp [PyData.showableAll, PyData.hasDictAll, PyData.depthAll, PyData.leavesShortAll, PyData.weightAll, PyData.showable, PyData.hasDict, PyData.depth, PyData.leavesShort, PyData.weight, h1, h2, h3, h4]
    omega
/-- repr of truths -/
theorem repr_bs {K : PySem.W.Frag} {H : Hp} {R : PyData → Prop} {a : Addr} (bs : List Bool) {xs : List V} (e : H a = some (.lst xs)) (ex : xs = bs.map V.bl) (hl : bs.length ≤ 1000) (q : R (dBools bs)) :
    ∃ (a' : Addr) (d' : PyData), [V.ref a] = [V.ref a'] ∧ Dp K H (.ref a') d' ∧ d'.showable = true ∧ d'.hasDict = false ∧ d'.depth ≤ 60 ∧ d'.shown.length ≤ sizeLine ∧ R d' := by
  subst ex
  obtain ⟨h1, h2, h3, h4, h5⟩ := bools_ok bs
  refine go_repr (dBools bs) (.lst (.inl (.inl e)) (dpAll_bools bs)) ?_ ?_ ?_ ?_ ?_ q
  · simp only [dBools, PyData.showable]; exact h1
  · simp only [dBools, PyData.hasDict]; exact h2
  · simp only [dBools, PyData.depth, h3]; omega
  · simp only [dBools, PyData.leavesShort]; exact h4
  · simp only [dBools, PyData.weight]; omega
end G1
namespace G1
open PySem PySem.Spec PyProof.Rows L2
def dMix (a b c : Bool) (x : List Bool) : PyData := .list [.bool a, .bool b, .bool c, .str (B x)]
theorem repr_mix {K : PySem.W.Frag} {H : Hp} {R : PyData → Prop} {p : Addr} {a b c : Bool} {x : List Bool} (e : H p = some (.lst [.bl a, .bl b, .bl c, .str (B x)])) (h1 : x.length ≤ 100000) (q : R (dMix a b c x)) :
    ∃ (a' : Addr) (d' : PyData), [V.ref p] = [V.ref a'] ∧ Dp K H (.ref a') d' ∧ d'.showable = true ∧ d'.hasDict = false ∧ d'.depth ≤ 60 ∧ d'.shown.length ≤ sizeLine ∧ R d' := by
  refine go_repr (dMix a b c x) (.lst (.inl (.inl e)) (.cons (.bl _) (.cons (.bl _) (.cons (.bl _) (.cons (.str _) .nil))))) ?_ ?_ ?_ ?_ ?_ q
  · simp [dMix, PyData.showable, PyData.showableAll]
  · simp [dMix, PyData.hasDict, PyData.hasDictAll]
  · simp [dMix, PyData.depth, PyData.depthAll]
  · simp only [dMix, PyData.leavesShort, PyData.leavesShortAll, Bool.and_eq_true]
    exact ⟨trivial, trivial, trivial, leaf_B x, trivial⟩
  · simp only [dMix, PyData.weight, PyData.weightAll]
    have e1 := w_B x
    simp only [PyData.weight] at e1
    omega
theorem L_01 : Str.ofString "01" = B [false, true] := by decide +kernel
theorem L_001 : Str.ofString "001" = B [false, false, true] := by decide +kernel
theorem L_1000 : Str.ofString "1000" = B [true, false, false, false] := by decide +kernel
end G1
/-! what draws come from: a list of two lists and a count, changed by each draw; all else stands -/
namespace G1
open PySem PySem.Spec PyProof.Rows L2

/-- the well at w, its great cells at g -/
def WellAt (w g : Addr) (H : Hp) : Prop := ∃ (c : Addr) (gs cs : List Int) (k : Int), w ≠ g ∧ c ≠ g ∧ c ≠ w ∧ H w = some (.lst [.ref g, .ref c, .int k]) ∧
  H g = some (.lst (gs.map V.int)) ∧ H c = some (.lst (cs.map V.int)) ∧ 0 < cs.length ∧ gs.length ≤ 1000 ∧ cs.length ≤ 1000
/-- H' is as H but for the well -/
def Go (w g : Addr) (H H' : Hp) : Prop := ∀ a o, a ≠ w → a ≠ g → H a = some o → H' a = some o
theorem Go.refl {w g : Addr} {H : Hp} : Go w g H H := fun _ _ _ _ h => h
theorem Go.trans {w g : Addr} {H H1 H2 : Hp} (a : Go w g H H1) (b : Go w g H1 H2) : Go w g H H2 := fun x o h1 h2 h => b x o h1 h2 (a x o h1 h2 h)
theorem Go.of {w g : Addr} {H H' : Hp} (h : Same H H') : Go w g H H' := fun x o _ _ e => h x o e
/-- o stands at a, apart from the well -/
structure At (w g : Addr) (H : Hp) (a : Addr) (o : HO) : Prop where
  nw : a ≠ w
  ng : a ≠ g
  at_ : H a = some o
theorem At.go {w g : Addr} {H H' : Hp} {a : Addr} {o : HO} (x : At w g H a o) (s : Go w g H H') : At w g H' a o := ⟨x.nw, x.ng, s a o x.nw x.ng x.at_⟩
theorem same_new {H : Hp} {p : Addr} {o : HO} (h : H p = none) : Same H (upd H p o) := fun b x e => by
  rw [upd_ne (ne_of_none e h)]
  exact e
theorem Same.rfl' {H : Hp} : Same H H := fun _ _ h => h
theorem WellAt.same {w g : Addr} {H H' : Hp} (W : WellAt w g H) (s : Same H H') : WellAt w g H' := by
  obtain ⟨c, gs, cs, k, h1, h2, h3, h4, h5, h6, h7⟩ := W
  exact ⟨c, gs, cs, k, h1, h2, h3, s _ _ h4, s _ _ h5, s _ _ h6, h7⟩
theorem WellAt.fresh {w g p : Addr} {H : Hp} (W : WellAt w g H) (h : H p = none) : p ≠ w ∧ p ≠ g := by
  obtain ⟨c, gs, cs, k, h1, h2, h3, h4, h5, h6, h7⟩ := W
  exact ⟨(ne_of_none h4 h).symm, (ne_of_none h5 h).symm⟩
/-- a new object beside the well -/
theorem new_w {w g : Addr} {H : Hp} {o : HO} {Q : VK} (W : WellAt w g H)
    (h : ∀ p H', H p = none → Same H H' → WellAt w g H' → At w g H' p o → Q (.ref p) H') : ∀ p, H p = none → Q (.ref p) (upd H p o) := fun p hp =>
  h p _ hp (same_new hp) (W.same (same_new hp)) ⟨(W.fresh hp).1, (W.fresh hp).2, upd_same⟩
/-- a new object -/
theorem new_s {H : Hp} {o : HO} {Q : VK} (h : ∀ p H', H p = none → Same H H' → H' p = some o → Q (.ref p) H') : ∀ p, H p = none → Q (.ref p) (upd H p o) :=
  fun p hp => h p _ hp (same_new hp) upd_same
theorem new_of {w g p : Addr} {H H' : Hp} {o : HO} (W : WellAt w g H) (hp : H p = none) (e : upd H p o = H') : Same H H' ∧ WellAt w g H' ∧ At w g H' p o := by
  subst e
  exact ⟨same_new hp, W.same (same_new hp), (W.fresh hp).1, (W.fresh hp).2, upd_same⟩
theorem new_of0 {p : Addr} {H H' : Hp} {o : HO} (hp : H p = none) (e : upd H p o = H') : Same H H' ∧ H' p = some o := by
  subst e
  exact ⟨same_new hp, upd_same⟩
theorem same_mut {H H1 : Hp} {D : Addr} {o : HO} (s : Same H H1) (h : H D = none) : Same H (upd H1 D o) := fun b x e => by
  rw [upd_ne (ne_of_none e h)]
  exact s _ _ e
theorem szl {n : Nat} (h : n ≤ 1000) : n ≤ sizeLine := Nat.le_trans h (by decide)
theorem At.sqL {K : PySem.W.Frag} {w g : Addr} {H : Hp} {a : Addr} {xs : List V} (x : At w g H a (.lst xs)) : SqL K H a xs := .inl (.inl x.at_)
theorem At.sqT {K : PySem.W.Frag} {w g : Addr} {H : Hp} {a : Addr} {xs : List V} (x : At w g H a (.tup xs)) : SqT K H a xs := .inl (.inl x.at_)
theorem sqL_of {K : PySem.W.Frag} {H : Hp} {a : Addr} {xs : List V} (h : H a = some (.lst xs)) : SqL K H a xs := .inl (.inl h)
theorem sqT_of {K : PySem.W.Frag} {H : Hp} {a : Addr} {xs : List V} (h : H a = some (.tup xs)) : SqT K H a xs := .inl (.inl h)
/-- a tuple stands apart from the well -/
theorem WellAt.tup {w g a : Addr} {H : Hp} {xs : List V} (W : WellAt w g H) (h : H a = some (.tup xs)) : At w g H a (.tup xs) := by
  obtain ⟨c, gs, cs, k, h1, h2, h3, h4, h5, h6, h7⟩ := W
  exact ⟨ne_of h h4 (by intro z; cases z), ne_of h h5 (by intro z; cases z), h⟩
end G1
namespace G1
open PySem PySem.Spec PyProof.Rows L2
theorem ifT {A B : Prop} (h : A) : if true = true then A else B := by rw [if_pos rfl]; exact h
theorem ifF {A B : Prop} (h : B) : if false = true then A else B := by rw [if_neg Bool.false_ne_true]; exact h
theorem ifD {c : Prop} [Decidable c] {A B : Prop} (h1 : c → A) (h2 : ¬ c → B) : if decide c = true then A else B := by
  by_cases h : c
  · rw [decide_eq_true h]
    exact ifT (h1 h)
  · rw [decide_eq_false h]
    exact ifF (h2 h)
theorem ifDn {c : Prop} [Decidable c] {A B : Prop} (h1 : ¬ c → A) (h2 : c → B) : if (!decide c) = true then A else B := by
  by_cases h : c
  · rw [decide_eq_true h]
    exact ifF (h2 h)
  · rw [decide_eq_false h]
    exact ifT (h1 h)
theorem ifB {b : Bool} {A B : Prop} (h1 : b = true → A) (h2 : b = false → B) : if b = true then A else B := by
  cases b with
  | true => exact ifT (h1 rfl)
  | false => exact ifF (h2 rfl)
end G1
namespace G1
open PySem PySem.Spec PyProof.Rows L2
theorem dpAll_ints {K : PySem.W.Frag} {H : Hp} : ∀ ns : List Int, DpAll K H (ns.map V.int) (ns.map PyData.int)
  | [] => .nil
  | n :: ns => .cons (.int n) (dpAll_ints ns)
theorem lay_ints : ∀ ns : List Int, PyData.canLayAll0 (ns.map PyData.int) = true
  | [] => by simp [PyData.canLayAll0]
  | n :: ns => by simp [PyData.canLayAll0, PyData.canLay0, lay_ints ns]
theorem depth_ints : ∀ ns : List Int, PyData.depthAll (ns.map PyData.int) = 0
  | [] => by simp [PyData.depthAll]
  | n :: ns => by simp [PyData.depthAll, PyData.depth, depth_ints ns]
theorem shaped_ints (ns : List Int) : SeqAt.shaped (.list (ns.map PyData.int)) = true := by
  show (PyData.canLay0 (.list (ns.map PyData.int)) && decide (PyData.depth (.list (ns.map PyData.int)) ≤ 64)) = true
  rw [Bool.and_eq_true]
  refine ⟨by simp only [PyData.canLay0]; exact lay_ints ns, decide_eq_true ?_⟩
  simp only [PyData.depth, depth_ints]
  omega
theorem eqv_ints_nil (ns : List Int) : PyData.eqv (.list (ns.map PyData.int)) (.list []) = decide (ns = []) := by
  cases ns with
  | nil => simp [PyData.eqv, PyData.eqvAll]
  | cons n ns => simp [PyData.eqv, PyData.eqvAll]
end G1

namespace G1
open PySem PySem.Spec PyProof.Rows L2
theorem ix_zero {n : Nat} (h : 0 < n) : ixN n 0 = some 0 := by
  unfold ixN
  rw [if_pos (by omega), if_pos (by omega)]
  rfl
theorem ix_at {n j : Nat} {i : Int} (e : i = (j : Int)) (h : j < n) : ixN n i = some j := by
  subst e
  unfold ixN
  rw [if_pos (by omega), if_pos (by omega)]
  rfl
end G1

namespace G1
open PySem PySem.Spec PyProof.Rows L2
theorem seq_zero (n : Nat) : seqIndex? 0 (n + 1) = some 0 := by
  unfold seqIndex?
  simp
end G1

namespace G1
open PySem PySem.Spec PyProof.Rows L2
section
variable {K : PySem.W.Frag} {H : Hp} {Q : VK} {p : Addr} {xs : List V} {v : V}
theorem go_ixL {R : V → Prop} {j : Nat} (hs : H p = some (.lst xs)) (hj : xs[j]? = some v) (q : R v) :
    ∃ p' xs' i' v', V.ref p = V.ref p' ∧ V.int (j : Int) = V.int i' ∧ SqL K H p' xs' ∧ atI xs' i' = some v' ∧ R v' :=
  ⟨p, xs, _, v, rfl, rfl, sqL_of hs, atI_nat hj, q⟩
theorem go_ixLi {R : V → Prop} {i : Int} {j : Nat} (hs : H p = some (.lst xs)) (e : i = (j : Int)) (hj : xs[j]? = some v) (q : R v) :
    ∃ p' xs' i' v', V.ref p = V.ref p' ∧ V.int i = V.int i' ∧ SqL K H p' xs' ∧ atI xs' i' = some v' ∧ R v' := by
  subst e
  exact ⟨p, xs, _, v, rfl, rfl, sqL_of hs, atI_nat hj, q⟩
theorem go_ixT {R : V → Prop} {j : Nat} (hs : H p = some (.tup xs)) (hj : xs[j]? = some v) (q : R v) :
    ∃ p' xs' i' v', V.ref p = V.ref p' ∧ V.int (j : Int) = V.int i' ∧ SqT K H p' xs' ∧ atI xs' i' = some v' ∧ R v' :=
  ⟨p, xs, _, v, rfl, rfl, sqT_of hs, atI_nat hj, q⟩
theorem go_ixLast {R : V → Prop} (hs : H p = some (.lst xs)) (hj : xs[xs.length - 1]? = some v) (q : R v) :
    ∃ p' xs' i' v', V.ref p = V.ref p' ∧ V.int (-1) = V.int i' ∧ SqL K H p' xs' ∧ atI xs' i' = some v' ∧ R v' := by
  refine ⟨p, xs, _, v, rfl, rfl, sqL_of hs, ?_, q⟩
  have hl : 0 < xs.length := by
    cases xs with
    | nil => simp at hj
    | cons a l => simp
  unfold atI ixN
  rw [if_neg (by omega), if_pos (by omega)]
  show xs[(-1 + (xs.length : Int)).toNat]? = _
  rw [show (-1 + (xs.length : Int)).toNat = xs.length - 1 by omega]
  exact hj
theorem go_tup {R : List V → Prop} (hs : H p = some (.tup xs)) (q : R xs) : ∃ a ys, V.ref p = V.ref a ∧ SqT K H a ys ∧ R ys := ⟨p, xs, rfl, sqT_of hs, q⟩
theorem go_lenL {R : List V → Prop} (hs : H p = some (.lst xs)) (q : R xs) : ∃ p' ys, [V.ref p] = [V.ref p'] ∧ (SqL K H p' ys ∨ SqT K H p' ys) ∧ R ys :=
  ⟨p, xs, rfl, Or.inl (sqL_of hs), q⟩
end
end G1

namespace G1
open PySem PySem.Spec PyProof.Rows L2
section
variable {l m : List Bool}
/-- len of a text of two signs -/
theorem go_lenS {R : Str → Prop} (h : l.length ≤ 1000000) (q : R (B l)) : ∃ z, [V.str (B l)] = [V.str z] ∧ z.length ≤ sizeLine ∧ R z :=
  ⟨B l, rfl, by rw [B_len]; exact szM h, q⟩
theorem go_addS {R : Str → Str → Prop} (h : l.length + m.length ≤ 1000000) (q : R (B l) (B m)) : ∃ i j, V.str (B l) = V.str i ∧ V.str (B m) = V.str j ∧ i.length + j.length ≤ sizeLine ∧ R i j :=
  ⟨B l, B m, rfl, rfl, by rw [B_len, B_len]; exact szM h, q⟩
theorem go_mulS {R : Str → Int → Prop} {n : Int} (h : 0 ≤ n ∧ n < 2 ^ 30) (h2 : l.length * n.toNat ≤ 1000000) (q : R (B l) n) :
    ∃ z k, V.str (B l) = V.str z ∧ V.int n = V.int k ∧ 0 ≤ k ∧ k < 2 ^ 30 ∧ z.length * k.toNat ≤ 1000000 ∧ R z k :=
  ⟨B l, n, rfl, rfl, h.1, h.2, by rw [B_len]; exact h2, q⟩
theorem go_sl {R : Str → Prop} (h : l.length ≤ 1000000) (q : R (B l)) : ∃ z, V.str (B l) = V.str z ∧ z.length ≤ sizeLine ∧ R z :=
  ⟨B l, rfl, by rw [B_len]; exact szM h, q⟩
theorem go_ixS {R : Nat → Prop} {i : Int} {k : Nat} {b : Bool} (hi : i = (k : Int)) (h : l.length ≤ 1000000) (hk : l[k]? = some b) (q : R (cB b)) :
    ∃ z i' c, V.str (B l) = V.str z ∧ V.int i = V.int i' ∧ z.length ≤ sizeLine ∧ atI z.cps.toList i' = some c ∧ R c :=
  ⟨B l, i, _, rfl, rfl, by rw [B_len]; exact szM h, B_at l hi hk, q⟩
theorem go_ixSn {R : Nat → Prop} {i : Int} {k : Nat} {b : Bool} (hi : i = -1 - (k : Int)) (h : l.length ≤ 1000000) (hl : k < l.length) (hk : l[l.length - 1 - k]? = some b) (q : R (cB b)) :
    ∃ z i' c, V.str (B l) = V.str z ∧ V.int i = V.int i' ∧ z.length ≤ sizeLine ∧ atI z.cps.toList i' = some c ∧ R c :=
  ⟨B l, i, _, rfl, rfl, by rw [B_len]; exact szM h, B_atNeg l hi hl hk, q⟩
end
end G1
namespace G1
open PySem PySem.Spec PyProof.Rows L2
theorem log_small {i : Int} (h0 : 0 ≤ i) (h1 : i < 2 ^ 64) : i.natAbs.log2 < 1920 := by
  have h : i.natAbs < 2 ^ 64 := by omega
  by_cases hz : i.natAbs = 0
  · rw [hz]; decide
  · exact Nat.lt_of_lt_of_le ((Nat.log2_lt hz).mpr h) (by decide)
theorem go_bit {R : Int → Prop} {i : Int} (h : 0 ≤ i ∧ i < 2) (q : R i) : ∃ k, [V.int i] = [V.int k] ∧ k.natAbs.log2 < 1920 ∧ R k :=
  ⟨i, rfl, log_small h.1 (by omega), q⟩
theorem flat_one : ∀ bs : List Bool, (bs.map fun b => [b]).flatten = bs
  | [] => rfl
  | b :: bs => by rw [List.map_cons, List.flatten_cons, flat_one bs]; rfl
theorem len_one : ∀ bs : List Bool, ((bs.map fun b => B [b]).map (·.length)).sum = bs.length
  | [] => rfl
  | b :: bs => by
    rw [List.map_cons, List.map_cons, List.sum_cons, len_one bs, B_len, List.length_cons, List.length_cons, List.length_nil]
    omega
theorem go_join {K : PySem.W.Frag} {H : Hp} {R : Str → List Str → Prop} {D : Addr} {bs : List Bool} (hD : H D = some (.lst (bs.map fun b => V.str (B [b])))) (hl : bs.length ≤ 1000000) (q : R (B []) (bs.map fun b => B [b])) :
    ∃ a p ys, V.str (B []) = V.str a ∧ [V.ref D] = [V.ref p] ∧ (SqL K H p (List.map V.str ys) ∨ SqT K H p (List.map V.str ys)) ∧ (List.map (fun x => x.length) ys).sum + ys.length * a.length ≤ 16777216 ∧ R a ys := by
  refine ⟨B [], D, bs.map fun b => B [b], rfl, rfl, Or.inl ?_, ?_, q⟩
  · rw [List.map_map]
    exact sqL_of hD
  · rw [len_one, B_len]
    simp
    omega
theorem joined (bs : List Bool) : Txt.join (B []) (bs.map fun b => B [b]) = B bs := by
  have e : (bs.map fun b => B [b]) = (bs.map fun b => [b]).map B := by rw [List.map_map]; rfl
  rw [e, join_nil, flat_one]
end G1
namespace G1
open PySem PySem.Spec PyProof.Rows L2
theorem go_in {K : PySem.W.Frag} {H : Hp} {R : Bool → Prop} {p : Addr} {x : Int} {ys : List Int} {xs : List V} (hs : H p = some (.tup xs)) (e : xs = ys.map V.int) (q : ∀ b, R b) :
    ∃ p' zs, V.ref p = V.ref p' ∧ (SqL K H p' zs ∨ SqT K H p' zs) ∧ flatV (.int x) = true ∧ zs.all flatV = true ∧ R (inV (.int x) zs) := by
  refine ⟨p, xs, rfl, Or.inr (sqT_of hs), rfl, ?_, q _⟩
  subst e
  rw [List.all_eq_true]
  intro v hv
  obtain ⟨i, _, rfl⟩ := List.mem_map.mp hv
  rfl
theorem mul_le {a b n m : Nat} (h1 : a ≤ n) (h2 : b ≤ m) (h : n * m ≤ 1000000) : a * b ≤ 1000000 := Nat.le_trans (Nat.mul_le_mul h1 h2) h
end G1
/-! rows of signs: a head and then a turn again and again; least forms (plain Lean) -/
namespace Row
/-- the sign of a number -/
def sg (h t : List Bool) (n : Nat) : Bool := if n < h.length then h.getD n false else t.getD ((n - h.length) % t.length) false
/-- so many signs of a row from a place on -/
def rng (r : Nat → Bool) (a n : Nat) : List Bool := (List.range n).map fun i => r (a + i)
theorem rng_len (r : Nat → Bool) (a n : Nat) : (rng r a n).length = n := by unfold rng; rw [List.length_map, List.length_range]
theorem rng_get (r : Nat → Bool) (a n i : Nat) (h : i < n) : (rng r a n)[i]? = some (r (a + i)) := by
  unfold rng
  rw [List.getElem?_map, List.getElem?_range h]
  rfl
theorem rng_getD (r : Nat → Bool) (a n i : Nat) (h : i < n) : (rng r a n).getD i false = r (a + i) := by
  rw [List.getD_eq_getElem?_getD, rng_get r a n i h]
  rfl
theorem ext_rng {l : List Bool} {r : Nat → Bool} {a n : Nat} (hl : l.length = n) (h : ∀ i, i < n → l[i]? = some (r (a + i))) : l = rng r a n := by
  apply List.ext_getElem?
  intro i
  by_cases hi : i < n
  · rw [h i hi, rng_get r a n i hi]
  · rw [List.getElem?_eq_none (by omega), List.getElem?_eq_none (by rw [rng_len]; omega)]
theorem getD_some {l : List Bool} {i : Nat} (h : i < l.length) : l[i]? = some (l.getD i false) := by
  rw [List.getD_eq_getElem?_getD, List.getElem?_eq_getElem h]
  rfl
theorem sg_head {h t : List Bool} {n : Nat} (hn : n < h.length) : sg h t n = h.getD n false := by unfold sg; rw [if_pos hn]
theorem sg_turn {h t : List Bool} {n : Nat} (hn : h.length ≤ n) : sg h t n = t.getD ((n - h.length) % t.length) false := by unfold sg; rw [if_neg (by omega)]
/-- far numbers as those nearer by a multiple of the turn -/
theorem sg_back {h t : List Bool} (n k : Nat) (hk : h.length + k * t.length ≤ n) : sg h t (n - k * t.length) = sg h t n := by
  rw [sg_turn (by omega), sg_turn (by omega)]
  congr 1
  rw [show n - k * t.length - h.length = (n - h.length) - k * t.length by omega]
  have e : n - h.length = ((n - h.length) - k * t.length) + k * t.length := by omega
  rw [e, Nat.add_mul_mod_self_right]
  congr 1
  omega

/-! ### turns that come round -/
/-- turned on by k the turn is the same -/
def Rot (t : List Bool) (k : Nat) : Prop := ∀ i, i < t.length → t.getD i false = t.getD ((i + k) % t.length) false
theorem Rot.any {t : List Bool} {k : Nat} (h : Rot t k) (ht : 0 < t.length) (i : Nat) : t.getD (i % t.length) false = t.getD ((i + k) % t.length) false := by
  have := h (i % t.length) (Nat.mod_lt _ ht)
  rw [this, Nat.mod_add_mod]
theorem Rot.mul {t : List Bool} {k : Nat} (h : Rot t k) (ht : 0 < t.length) (m : Nat) : Rot t (m * k) := by
  induction m with
  | zero =>
    intro i hi
    rw [Nat.zero_mul, Nat.add_zero, Nat.mod_eq_of_lt hi]
  | succ m ih =>
    intro i hi
    rw [ih i hi, h.any ht]
    congr 1
    rw [Nat.succ_mul]
    congr 1
    omega
theorem rot_len (t : List Bool) : Rot t t.length := by
  intro i hi
  rw [Nat.add_mod_right, Nat.mod_eq_of_lt hi]
/-- the least way by which the turn is turned on into itself -/
structure IsPer (t : List Bool) (s : Nat) : Prop where
  pos : 1 ≤ s
  le : s ≤ t.length
  rot : Rot t s
  least : ∀ k, 1 ≤ k → k < s → ¬ Rot t k
theorem IsPer.uniq {t : List Bool} {s s' : Nat} (a : IsPer t s) (b : IsPer t s') : s = s' := by
  rcases Nat.lt_trichotomy s s' with h | h | h
  · exact absurd a.rot (b.least s a.pos h)
  · exact h
  · exact absurd b.rot (a.least s' b.pos h)
theorem IsPer.dvd {t : List Bool} {s : Nat} (a : IsPer t s) : t.length % s = 0 := by
  have ht : 0 < t.length := Nat.lt_of_lt_of_le a.pos a.le
  by_cases h : t.length % s = 0
  · exact h
  · exfalso
    have hlt := Nat.mod_lt t.length (show 0 < s from a.pos)
    refine a.least (t.length % s) (by omega) hlt ?_
    -- T = q s + r, turned on by T and back by q s
    intro i hi
    have hq := (a.rot.mul ht (t.length / s)).any ht (i + t.length % s)
    rw [hq]
    have e : i + t.length % s + t.length / s * s = i + t.length := by
      have := Nat.mod_add_div t.length s
      rw [Nat.mul_comm] at this
      omega
    rw [e, Nat.add_mod_right, Nat.mod_eq_of_lt hi]

/-- where the turn begins, if it is s signs long -/
structure IsBeg (h t : List Bool) (s m : Nat) : Prop where
  le : m ≤ h.length
  same : ∀ n, m ≤ n → n < h.length → sg h t n = sg h t (n + s)
  least : m = 0 ∨ sg h t (m - 1) ≠ sg h t (m - 1 + s)
theorem IsBeg.uniq {h t : List Bool} {s m m' : Nat} (a : IsBeg h t s m) (b : IsBeg h t s m') : m = m' := by
  have key : ∀ {m m' : Nat}, IsBeg h t s m → IsBeg h t s m' → ¬ m < m' := by
    intro m m' a b hlt
    rcases b.least with e | e
    · omega
    · exact e (a.same (m' - 1) (by omega) (by have := b.le; omega))
  have k1 := key a b
  have k2 := key b a
  omega
/-- behind the head the row goes on by the turn -/
theorem sg_rot {h t : List Bool} {s : Nat} (ht : 0 < t.length) (r : Rot t s) {n : Nat} (hn : h.length ≤ n) : sg h t n = sg h t (n + s) := by
  rw [sg_turn hn, sg_turn (by omega), r.any ht]
  congr 2
  omega
theorem IsBeg.from {h t : List Bool} {s m : Nat} (a : IsBeg h t s m) (p : IsPer t s) {n : Nat} (hn : m ≤ n) : sg h t n = sg h t (n + s) := by
  by_cases hh : n < h.length
  · exact a.same n hn hh
  · exact sg_rot (Nat.lt_of_lt_of_le p.pos p.le) p.rot (by omega)
theorem IsBeg.mul {h t : List Bool} {s m : Nat} (a : IsBeg h t s m) (p : IsPer t s) {n : Nat} (hn : m ≤ n) (k : Nat) : sg h t n = sg h t (n + k * s) := by
  induction k with
  | zero => rw [Nat.zero_mul, Nat.add_zero]
  | succ k ih =>
    rw [ih, a.from p (by omega), Nat.succ_mul]
    congr 1
    omega
/-- the least form tells the same -/
theorem sg_least {h t : List Bool} {s m : Nat} (a : IsBeg h t s m) (p : IsPer t s) (n : Nat) : sg (rng (sg h t) 0 m) (rng (sg h t) m s) n = sg h t n := by
  by_cases hn : n < m
  · rw [sg_head (by rw [rng_len]; exact hn), rng_getD _ _ _ _ hn, Nat.zero_add]
  · rw [sg_turn (by rw [rng_len]; omega), rng_len, rng_len, rng_getD _ _ _ _ (Nat.mod_lt _ p.pos)]
    have h1 := a.mul p (n := m + (n - m) % s) (by omega) ((n - m) / s)
    rw [h1]
    congr 1
    have := Nat.mod_add_div (n - m) s
    rw [Nat.mul_comm] at this
    omega
end Row
/-! the two ways to a least form: by parts of the turn and the head gone backwards; by turning on and by halving -/
namespace Row
open G1
theorem per_exists {t : List Bool} (ht : 0 < t.length) : ∃ s, IsPer t s := by
  have key : ∀ n, (∃ k, 1 ≤ k ∧ k ≤ n ∧ Rot t k) → ∃ s, 1 ≤ s ∧ s ≤ n ∧ Rot t s ∧ ∀ k, 1 ≤ k → k < s → ¬ Rot t k := by
    intro n
    induction n with
    | zero => rintro ⟨k, h1, h2, _⟩; omega
    | succ n ih =>
      rintro ⟨k, h1, h2, h3⟩
      by_cases h : ∃ k, 1 ≤ k ∧ k ≤ n ∧ Rot t k
      · obtain ⟨s, a, b, c, d⟩ := ih h
        exact ⟨s, a, by omega, c, d⟩
      · refine ⟨k, h1, h2, h3, fun j j1 j2 j3 => h ⟨j, j1, by omega, j3⟩⟩
  obtain ⟨s, a, b, c, d⟩ := key t.length ⟨t.length, ht, Nat.le_refl _, rot_len t⟩
  exact ⟨s, a, b, c, d⟩
theorem rot_part {t : List Bool} {s : Nat} (hs : 1 ≤ s) (hd : t.length % s = 0) (ht : 0 < t.length) (r : Rot t s) (i : Nat) (hi : i < t.length) : t.getD i false = t.getD (i % s) false := by
  have h := (r.mul ht (i / s)) (i % s) (Nat.lt_of_le_of_lt (Nat.mod_le _ _) hi)
  rw [h]
  congr 1
  have := Nat.mod_add_div i s
  rw [Nat.mul_comm] at this
  rw [this, Nat.mod_eq_of_lt hi]
theorem part_get {t : List Bool} {s : Nat} (hs : 1 ≤ s) (hl : s ≤ t.length) (hd : t.length % s = 0) (i : Nat) (hi : i < t.length) : (rep (t.length / s) (t.take s))[i]? = some (t.getD (i % s) false) := by
  have e : (t.take s).length = s := by rw [List.length_take]; omega
  have e2 : t.length / s * s = t.length := by
    have := Nat.mod_add_div t.length s
    rw [Nat.mul_comm] at this
    omega
  have hm := Nat.mod_lt i (show 0 < s from hs)
  rw [rep_get _ _ _ (by rw [e, e2]; exact hi), e, List.getElem?_take, if_pos hm]
  exact getD_some (by omega)
theorem rep_iff {t : List Bool} {s : Nat} (hs : 1 ≤ s) (hl : s ≤ t.length) (hd : t.length % s = 0) : rep (t.length / s) (t.take s) = t ↔ Rot t s := by
  have ht : 0 < t.length := by omega
  have e : (t.take s).length = s := by rw [List.length_take]; omega
  have e2 : t.length / s * s = t.length := by
    have := Nat.mod_add_div t.length s
    rw [Nat.mul_comm] at this
    omega
  constructor
  · intro h i hi
    have k1 : ∀ i, i < t.length → t.getD i false = t.getD (i % s) false := by
      intro i hi
      have h1 := part_get hs hl hd i hi
      rw [h, getD_some hi] at h1
      exact Option.some.inj h1
    rw [k1 i hi, k1 _ (Nat.mod_lt _ ht)]
    congr 1
    obtain ⟨q, hq⟩ : ∃ q, t.length = s * q := ⟨t.length / s, by rw [Nat.mul_comm]; exact e2.symm⟩
    rw [hq, Nat.mod_mul_right_mod, Nat.add_mod_right]
  · intro r
    apply List.ext_getElem?
    intro i
    by_cases hi : i < t.length
    · rw [part_get hs hl hd i hi, getD_some hi, rot_part hs hd ht r i hi]
    · rw [List.getElem?_eq_none (by rw [rep_length, e, e2]; omega), List.getElem?_eq_none (by omega)]

/-! ### the head gone backwards -/
/-- so many of the last signs of the head are as the turn u, gone backwards, has them, and no more -/
structure Alike (h u : List Bool) (a : Nat) : Prop where
  le : a ≤ h.length
  same : ∀ j, j < a → h.getD (h.length - 1 - j) false = u.getD (u.length - 1 - j % u.length) false
  last : a = h.length ∨ h.getD (h.length - 1 - a) false ≠ u.getD (u.length - 1 - a % u.length) false
/-- the row of u, begun anywhere -/
def gg (h u : List Bool) (n : Nat) : Bool := u.getD ((n + h.length * u.length - h.length) % u.length) false
theorem sub_mod_id {s j A : Nat} (hs : 0 < s) (hj : j < A) : (A * s - 1 - j) % s = s - 1 - j % s := by
  have hm := Nat.mod_lt j hs
  have h1 := Nat.mod_add_div j s
  have hq : j / s < A := Nat.lt_of_le_of_lt (Nat.div_le_self j s) hj
  obtain ⟨c, hc⟩ : ∃ c, A = j / s + 1 + c := ⟨A - j / s - 1, by omega⟩
  have e : A * s - 1 - j = (s - 1 - j % s) + s * c := by
    rw [hc, Nat.add_mul, Nat.add_mul, Nat.one_mul, Nat.mul_comm c s, Nat.mul_comm (j / s) s]
    omega
  rw [e, Nat.add_mul_mod_self_left, Nat.mod_eq_of_lt (by omega)]
theorem mul_ge {A s : Nat} (hs : 0 < s) : A ≤ A * s := Nat.le_mul_of_pos_right A hs
theorem gg_head {h u : List Bool} {j : Nat} (hu : 0 < u.length) (hj : j < h.length) : gg h u (h.length - 1 - j) = u.getD (u.length - 1 - j % u.length) false := by
  unfold gg
  congr 1
  rw [← sub_mod_id hu hj]
  congr 1
  have := mul_ge (A := h.length) hu
  omega
theorem gg_add {h u : List Bool} (hu : 0 < u.length) (n : Nat) : gg h u (n + u.length) = gg h u n := by
  unfold gg
  congr 1
  have := mul_ge (A := h.length) hu
  rw [show n + u.length + h.length * u.length - h.length = (n + h.length * u.length - h.length) + u.length by omega, Nat.add_mod_right]
section
variable {h t : List Bool} {s a : Nat}
theorem take_len (p : IsPer t s) : (t.take s).length = s := by rw [List.length_take]; exact Nat.min_eq_left p.le
theorem take_getD {i : Nat} (hi : i < s) : (t.take s).getD i false = t.getD i false := by
  rw [List.getD_eq_getElem?_getD, List.getD_eq_getElem?_getD, List.getElem?_take, if_pos hi]
theorem sg_gg (p : IsPer t s) (x : Alike h (t.take s) a) {n : Nat} (hn : h.length - a ≤ n) : sg h t n = gg h (t.take s) n := by
  have hu : 0 < (t.take s).length := by rw [take_len p]; exact p.pos
  have ht : 0 < t.length := Nat.lt_of_lt_of_le p.pos p.le
  by_cases hh : n < h.length
  · obtain ⟨j, hj⟩ : ∃ j, n = h.length - 1 - j ∧ j < h.length := ⟨h.length - 1 - n, by omega, by omega⟩
    obtain ⟨rfl, hj2⟩ := hj
    rw [sg_head hh, gg_head hu hj2, x.same j (by omega)]
  · rw [sg_turn (by omega)]
    unfold gg
    rw [take_len p]
    rw [take_getD (Nat.mod_lt _ p.pos)]
    rw [rot_part p.pos p.dvd ht p.rot _ (Nat.mod_lt _ ht)]
    congr 1
    obtain ⟨q, hq⟩ : ∃ q, t.length = s * q := ⟨t.length / s, by
      have := Nat.mod_add_div t.length s
      have hd := p.dvd
      omega⟩
    rw [hq, Nat.mod_mul_right_mod]
    have hge := mul_ge (A := h.length) p.pos
    rw [show n + h.length * s - h.length = (n - h.length) + h.length * s by omega, Nat.add_mul_mod_self_right]
theorem beg_of (p : IsPer t s) (x : Alike h (t.take s) a) : IsBeg h t s (h.length - a) := by
  have hu : 0 < (t.take s).length := by rw [take_len p]; exact p.pos
  have hle := x.le
  refine ⟨Nat.sub_le _ _, fun n h1 h2 => ?_, ?_⟩
  · rw [sg_gg p x h1, sg_gg p x (by omega)]
    have := gg_add (h := h) hu n
    rw [take_len p] at this
    exact this.symm
  · rcases x.last with e | e
    · exact .inl (by omega)
    · by_cases h0 : a = h.length
      · exact .inl (by omega)
      · refine .inr fun z => e ?_
        have ha : a < h.length := by omega
        rw [sg_head (by omega), sg_gg p x (n := h.length - a - 1 + s) (by have := p.pos; omega)] at z
        have g1 := gg_add (h := h) hu (h.length - a - 1)
        rw [take_len p] at g1
        rw [g1, show h.length - a - 1 = h.length - 1 - a by omega, gg_head hu ha] at z
        exact z
theorem win_of (p : IsPer t s) (x : Alike h (t.take s) a) :
    (t.take s).drop (s - a % s) ++ (t.take s).take (s - a % s) = rng (sg h t) (h.length - a) s := by
  have hl := take_len p
  have hle := x.le
  have hm := Nat.mod_lt a p.pos
  have hg : ∀ i, i < s → sg h t (h.length - a + i) = gg h (t.take s) (h.length - a + i) := fun i _ => sg_gg p x (by omega)
  unfold gg at hg
  rw [hl] at hg
  have hge := mul_ge (A := h.length) p.pos
  have ha := Nat.mod_add_div a s
  have hq : a / s ≤ h.length := Nat.le_trans (Nat.div_le_self a s) hle
  have hqs : a / s ≤ s * (a / s) := by
    rw [Nat.mul_comm]
    exact mul_ge p.pos
  obtain ⟨c, hc⟩ : ∃ c, h.length = a / s + c := ⟨h.length - a / s, by omega⟩
  have e0 : h.length * s = s * (a / s) + s * c := by
    conv => lhs; rw [hc]
    rw [Nat.add_mul, Nat.mul_comm (a / s) s, Nat.mul_comm c s]
  generalize hlu : t.take s = u at *
  generalize a / s = q at *
  generalize a % s = ρ at *
  generalize h.length * s = A at *
  refine ext_rng (by rw [List.length_append, List.length_drop, List.length_take, hl]; omega) fun i hi => ?_
  rw [hg i hi]
  have e1 : h.length - a + i + A - h.length = s * c + i - ρ := by omega
  rw [e1]
  by_cases h1 : i < ρ
  · rw [List.getElem?_append_left (by rw [List.length_drop, hl]; omega), List.getElem?_drop, getD_some (by rw [hl]; omega)]
    congr 2
    have hc0 : c ≠ 0 := by
      rintro rfl
      rw [Nat.mul_zero] at e0
      omega
    obtain ⟨d, rfl⟩ : ∃ d, c = d + 1 := ⟨c - 1, by omega⟩
    have e5 : s * (d + 1) = s * d + s := Nat.mul_succ s d
    rw [show s * (d + 1) + i - ρ = (s - ρ + i) + s * d by omega, Nat.add_mul_mod_self_left, Nat.mod_eq_of_lt (by omega)]
  · rw [List.getElem?_append_right (by rw [List.length_drop, hl]; omega), List.length_drop, hl, List.getElem?_take, if_pos (by omega), getD_some (by rw [hl]; omega)]
    congr 2
    rw [show s * c + i - ρ = (i - ρ) + s * c by omega, Nat.add_mul_mod_self_left, Nat.mod_eq_of_lt (by omega)]
    omega
theorem head_of (hm : a ≤ h.length) : h.take (h.length - a) = rng (sg h t) 0 (h.length - a) := by
  refine ext_rng (by rw [List.length_take]; omega) fun i hi => ?_
  rw [List.getElem?_take, if_pos hi, Nat.zero_add, sg_head (by omega), getD_some (by omega)]
end
end Row
/-! str.find from a place; the least form by turning on and by halving -/
namespace Row
open G1 PySem PySem.StrLaws PySem.Builtin PySem.Builtin.Str
theorem occ_full (s sub : Str) (hi : Nat) : ∀ (l : List Nat) (st : Array Nat × Nat), 1 ≤ st.fst.size → (forIn l st (occBody s sub hi 1)).run.fst = st.fst
  | [], st, h => rfl
  | a :: l, st, h => by
    rw [List.forIn_cons]
    unfold occBody
    rw [if_neg (fun c => by have := c.1.1.1; omega)]
    exact occ_full s sub hi l _ h
theorem occ_first (s sub : Str) (hi : Nat) : ∀ (n lo free k : Nat), free ≤ lo → lo ≤ k → k < lo + n → (k + sub.length ≤ hi ∧ subAt s sub k = true) →
    (∀ j, lo ≤ j → j < k → ¬ (j + sub.length ≤ hi ∧ subAt s sub j = true)) →
    (forIn (List.range' lo n) ((#[] : Array Nat), free) (occBody s sub hi 1)).run.fst.toList = [k]
  | 0, lo, free, k, _, h1, h2, _, _ => by omega
  | n + 1, lo, free, k, hf, h1, h2, hm, hl => by
    rw [List.range'_succ, List.forIn_cons]
    unfold occBody
    by_cases hk : k = lo
    · subst hk
      have c1 : ((((#[] : Array Nat), free).fst.size < 1 ∧ ((#[] : Array Nat), free).snd ≤ k) ∧ k + sub.length ≤ hi) ∧ subAt s sub k = true := ⟨⟨⟨by simp, hf⟩, hm.1⟩, hm.2⟩
      rw [if_pos c1]
      have h3 := occ_full s sub hi (List.range' (k + 1) n) (((#[] : Array Nat)).push k, k + sub.length) (by simp)
      have h4 : (forIn (List.range' (k + 1) n) (((#[] : Array Nat)).push k, k + sub.length) (occBody s sub hi 1)).run.fst.toList = [k] := by rw [h3]; rfl
      exact h4
    · have c2 : ¬ (((((#[] : Array Nat), free).fst.size < 1 ∧ ((#[] : Array Nat), free).snd ≤ lo) ∧ lo + sub.length ≤ hi) ∧ subAt s sub lo = true) := fun c => hl lo (Nat.le_refl _) (by omega) ⟨c.1.2, c.2⟩
      rw [if_neg c2]
      exact occ_first s sub hi n (lo + 1) free k (by omega) (by omega) (by omega) hm fun j j1 j2 => hl j (by omega) j2
theorem subAt_B (x y : List Bool) (k : Nat) : subAt (B x) (B y) k = true ↔ (x.drop k).take y.length = y := by
  rw [subAt_eq]
  rw [B_len, B_cps, B_cps, beq_iff_eq, ← List.map_drop, ← List.map_take]
  exact ⟨map_cB_inj, fun h => by rw [h]⟩
theorem find3_of {x y : List Bool} {s : Nat} (h1 : 1 ≤ s) (hs : s + y.length ≤ x.length) (hm : (x.drop s).take y.length = y) (hl : ∀ k, 1 ≤ k → k < s → (x.drop k).take y.length ≠ y) :
    Txt.find3 (B x) (B y) 1 = (s : Int) := by
  unfold Txt.find3
  have e : occurrences (B x) (B y) (fromIndex (B x).length 1) (B x).length 1 = [s] := by
    rw [occ_eq]
    have e1 : fromIndex (B x).length 1 = 1 := rfl
    rw [e1]
    refine occ_first (B x) (B y) (B x).length _ 1 1 s (Nat.le_refl _) h1 (by rw [B_len]; omega) ⟨by rw [B_len, B_len]; exact hs, (subAt_B x y s).mpr hm⟩ fun j j1 j2 c => ?_
    exact hl j j1 j2 ((subAt_B x y j).mp c.2)
  rw [e]
theorem twice_get {t : List Bool} {k : Nat} (hk : k ≤ t.length) {i : Nat} (hi : i < t.length) : (((t ++ t).drop k).take t.length)[i]? = some (t.getD ((i + k) % t.length) false) := by
  rw [List.getElem?_take, if_pos hi, List.getElem?_drop]
  by_cases h : k + i < t.length
  · rw [List.getElem?_append_left h, getD_some h, Nat.add_comm i k, Nat.mod_eq_of_lt h]
  · rw [List.getElem?_append_right (by omega), getD_some (by omega), Nat.add_comm i k]
    congr 2
    rw [Nat.mod_eq_sub_mod (by omega), Nat.mod_eq_of_lt (by omega)]
theorem twice_rot {t : List Bool} {k : Nat} (hk : k ≤ t.length) : ((t ++ t).drop k).take t.length = t ↔ Rot t k := by
  constructor
  · intro h i hi
    have h1 := twice_get hk hi
    rw [h, getD_some hi] at h1
    exact Option.some.inj h1
  · intro r
    apply List.ext_getElem?
    intro i
    by_cases hi : i < t.length
    · rw [twice_get hk hi, getD_some hi, r i hi]
    · rw [List.getElem?_eq_none (by rw [List.length_take, List.length_drop, List.length_append]; omega), List.getElem?_eq_none (by omega)]
/-- (t + t).find(t, 1) -/
theorem find_per {t : List Bool} {s : Nat} (p : IsPer t s) : Txt.find3 (B (t ++ t)) (B t) 1 = (s : Int) := by
  have hle := p.le
  refine find3_of p.pos (by rw [List.length_append]; omega) ((twice_rot hle).mpr p.rot) fun k k1 k2 h => ?_
  exact p.least k k1 k2 ((twice_rot (by omega)).mp h)

/-! ### halving -/
/-- the row of a head and its turn twice -/
theorem row2_get {h t : List Bool} {i : Nat} (hi : i < h.length + t.length + t.length) : (h ++ t ++ t)[i]? = some (sg h t i) := by
  by_cases h1 : i < h.length
  · rw [List.append_assoc, List.getElem?_append_left h1, sg_head h1, getD_some h1]
  · rw [sg_turn (by omega), List.append_assoc, List.getElem?_append_right (by omega)]
    have ht : 0 < t.length := by omega
    by_cases h2 : i - h.length < t.length
    · rw [List.getElem?_append_left h2, getD_some h2, Nat.mod_eq_of_lt h2]
    · rw [List.getElem?_append_right (by omega), getD_some (by omega)]
      congr 2
      rw [Nat.mod_eq_sub_mod (by omega), Nat.mod_eq_of_lt (by omega)]
/-- what a turn of the halving asks -/
theorem half_iff {h t : List Bool} {s m : Nat} (hs : s ≤ t.length) (hm : m ≤ h.length) :
    ((h ++ t ++ t).take h.length).drop m = ((h ++ t ++ t).take (h.length + s)).drop (m + s) ↔ ∀ n, m ≤ n → n < h.length → sg h t n = sg h t (n + s) := by
  constructor
  · intro e n h1 h2
    have e2 := congrArg (fun l => l[n - m]?) e
    simp only [List.getElem?_drop, List.getElem?_take] at e2
    rw [if_pos (by omega), if_pos (by omega), row2_get (by omega), row2_get (by omega)] at e2
    have e3 := Option.some.inj e2
    rw [show m + (n - m) = n by omega, show m + s + (n - m) = n + s by omega] at e3
    exact e3
  · intro a
    apply List.ext_getElem?
    intro i
    rw [List.getElem?_drop, List.getElem?_drop, List.getElem?_take, List.getElem?_take]
    by_cases h1 : m + i < h.length
    · rw [if_pos h1, if_pos (by omega), row2_get (by omega), row2_get (by omega), a (m + i) (by omega) h1]
      congr 2
      omega
    · rw [if_neg h1, if_neg (by omega)]
/-- between low and high the place lies -/
structure Half (h t : List Bool) (s lo hi : Nat) : Prop where
  le : lo ≤ hi
  top : hi ≤ h.length
  same : ∀ n, hi ≤ n → n < h.length → sg h t n = sg h t (n + s)
  low : ∀ m, m < lo → ∃ n, m ≤ n ∧ n < h.length ∧ sg h t n ≠ sg h t (n + s)
theorem Half.beg {h t : List Bool} {s lo hi : Nat} (x : Half h t s lo hi) (e : lo = hi) : IsBeg h t s hi := by
  subst e
  refine ⟨x.top, x.same, ?_⟩
  rcases Nat.eq_zero_or_pos lo with z | z
  · exact .inl z
  · refine .inr fun c => ?_
    obtain ⟨n, h1, h2, h3⟩ := x.low (lo - 1) (by omega)
    by_cases e : n = lo - 1
    · subst e
      exact h3 c
    · exact h3 (x.same n (by omega) h2)
theorem beg_exists {h t : List Bool} {s : Nat} : ∃ m, IsBeg h t s m := by
  have key : ∀ d, d ≤ h.length → (∀ n, h.length - d ≤ n → n < h.length → sg h t n = sg h t (n + s)) → ∃ m, IsBeg h t s m := by
    intro d
    induction hk : h.length - d generalizing d with
    | zero => exact fun h1 h2 => ⟨0, Nat.zero_le _, fun n a b => h2 n a b, .inl rfl⟩
    | succ k ih =>
      intro h1 h2
      by_cases c : sg h t k = sg h t (k + s)
      · refine ih (d + 1) (by omega) (by omega) fun n a b => ?_
        by_cases e : n = k
        · subst e; exact c
        · exact h2 n (by omega) b
      · exact ⟨k + 1, by omega, h2, .inr c⟩
  exact key 0 (Nat.zero_le _) fun n a b => by omega
theorem rng_take {h t : List Bool} {m : Nat} (hm : m ≤ h.length + t.length + t.length) : (h ++ t ++ t).take m = rng (sg h t) 0 m := by
  refine ext_rng (by rw [List.length_take, List.length_append, List.length_append]; omega) fun i hi => ?_
  rw [List.getElem?_take, if_pos hi, row2_get (by omega), Nat.zero_add]
theorem rng_mid {h t : List Bool} {m s : Nat} (hm : m + s ≤ h.length + t.length + t.length) : ((h ++ t ++ t).take (m + s)).drop m = rng (sg h t) m s := by
  refine ext_rng (by rw [List.length_drop, List.length_take, List.length_append, List.length_append]; omega) fun i hi => ?_
  rw [List.getElem?_drop, List.getElem?_take, if_pos (by omega), row2_get (by omega)]
/-- the first so many signs -/
theorem row_take {h t : List Bool} {k m : Nat} (ht : 0 < t.length) (hm : m ≤ h.length + k * t.length) : (h ++ rep k t).take m = rng (sg h t) 0 m := by
  refine ext_rng (by rw [List.length_take, List.length_append, rep_length]; omega) fun i hi => ?_
  rw [List.getElem?_take, if_pos hi, Nat.zero_add]
  by_cases h1 : i < h.length
  · rw [List.getElem?_append_left h1, sg_head h1, getD_some h1]
  · rw [List.getElem?_append_right (by omega), rep_get _ _ _ (by omega), sg_turn (by omega), getD_some (Nat.mod_lt _ ht)]
end Row
namespace Row
theorem less_ok {h t : List Bool} {n : Int} (n0 : 0 ≤ n) (t0 : 0 < t.length) :
    0 ≤ n - (if n - (h.length : Int) > 0 then n - (h.length : Int) else 0) / (t.length : Int) * (t.length : Int) ∧
    sg h t (n - (if n - (h.length : Int) > 0 then n - (h.length : Int) else 0) / (t.length : Int) * (t.length : Int)).toNat = sg h t n.toNat := by
  by_cases hn : n - (h.length : Int) > 0
  · rw [if_pos hn]
    obtain ⟨k, hk⟩ : ∃ k, k = (n.toNat - h.length) / t.length := ⟨_, rfl⟩
    have e : (n - (h.length : Int)) / (t.length : Int) = (k : Int) := by
      rw [hk, Int.natCast_ediv]
      congr 1
      omega
    have hm := Nat.div_mul_le_self (n.toNat - h.length) t.length
    rw [← hk] at hm
    rw [e]
    have hc : (k : Int) * (t.length : Int) = ((k * t.length : Nat) : Int) := (Int.natCast_mul _ _).symm
    rw [hc]
    refine ⟨by omega, ?_⟩
    have e2 : (n - ((k * t.length : Nat) : Int)).toNat = n.toNat - k * t.length := by omega
    rw [e2]
    exact sg_back _ _ (by omega)
  · rw [if_neg hn]
    have e : (0 : Int) / (t.length : Int) * (t.length : Int) = 0 := by rw [Int.zero_ediv, Int.zero_mul]
    rw [e, Int.sub_zero]
    exact ⟨n0, rfl⟩
end Row
namespace G3
open PySem PySem.Spec PyProof.Rows L2 G1 Row
local macro_rules | `(tactic| walk_at "side") => `(tactic| first
  | assumption
  | omega
  | (constructor <;> omega)
  | rfl
  | decide
  | (dsimp only; decide)
  | (refine szl ?_; simp only [List.length_cons, List.length_nil]; omega)
  | (unfold CMul; omega)
  | (unfold CDiv; omega)
  | (unfold CPow; omega)
  | (unfold CMul; simp; done)
  | (unfold CMul; simp; omega)
  | (simp only [List.length_map, List.length_append, List.length_take, List.length_drop, rep_length, List.length_cons, List.length_nil, Nat.zero_add, Nat.mul_one]; omega))
local macro_rules | `(tactic| walk_at "go1") => `(tactic| first
  | (apply go_bit; (focus walk_at "side"); rw [B_str _ (by walk_at "side") (by walk_at "side")])
  | (apply go_lenS; (focus walk_at "side"); simp only [B_len])
  | (apply go_addS; (focus walk_at "side"); rw [B_app])
  | (apply go_mulS; (focus walk_at "side"); (focus walk_at "side"); rw [B_mul _ (by walk_at "side")])
  | (apply go_sl; (focus walk_at "side"); first | rw [B_to _ (by walk_at "side")] | rw [B_from _ (by walk_at "side")] | rw [B_mid _ (by walk_at "side") (by walk_at "side")])
  | refine ⟨_, rfl, ?_⟩
  | refine ⟨_, _, rfl, rfl, ?_⟩
  | refine ⟨_, _, _, rfl, rfl, ?_⟩
  | refine ⟨_, _, rfl, ?_⟩
  | refine ⟨_, _, _, rfl, ?_⟩
  | (apply go_tup; assumption)
  | (apply go_ixL; assumption; (first | rfl | assumption))
  | (apply go_ixT; assumption; (first | rfl | assumption))
  | (apply go_lenL; assumption)
  | refine Or.inl ⟨_, rfl, ?_⟩
  | (refine And.intro ?ll ?_; (case ll => walk_at "side")))
local macro_rules | `(tactic| walk_at "go") => `(tactic| repeat (walk_at "go1"))
def topS (i : Nat) : Stmt := PySem.Challenge.pw_leastmakers_k03_signs_near_and_far.main.body.getD i (.Pass ⟨0, 0, 0, 0⟩)
abbrev s_least : Stmt := topS 1
abbrev nm_least : List Str := ["table", "head", "turn", "alike", "cut"]
theorem sc_least : FnScope nm_least ["table"] (defScope s_least) := ⟨rfl, rfl, rfl, by decide +kernel, rfl, by decide +kernel, by decide +kernel⟩
abbrev s_shortest : Stmt := topS 2
abbrev nm_shortest : List Str := ["turn", "many", "size"]
theorem sc_shortest : FnScope nm_shortest ["turn"] (defScope s_shortest) := ⟨rfl, rfl, rfl, by decide +kernel, rfl, by decide +kernel, by decide +kernel⟩
abbrev s_alike : Stmt := topS 3
abbrev nm_alike : List Str := ["head", "turn", "alike"]
theorem sc_alike : FnScope nm_alike ["head", "turn"] (defScope s_alike) := ⟨rfl, rfl, rfl, by decide +kernel, rfl, by decide +kernel, by decide +kernel⟩
abbrev s_has : Stmt := topS 4
abbrev nm_has : List Str := ["table", "number", "head", "turn"]
theorem sc_has : FnScope nm_has ["table", "number"] (defScope s_has) := ⟨rfl, rfl, rfl, by decide +kernel, rfl, by decide +kernel, by decide +kernel⟩
abbrev s_signs : Stmt := topS 5
abbrev nm_signs : List Str := ["table", "many", "head", "turn", "rounds"]
theorem sc_signs : FnScope nm_signs ["table", "many"] (defScope s_signs) := ⟨rfl, rfl, rfl, by decide +kernel, rfl, by decide +kernel, by decide +kernel⟩
abbrev s_well : Stmt := topS 7
abbrev nm_well : List Str := ["_law_script", "_law_great_here", "_law_cells", "_law_cell"]
theorem sc_well : FnScope nm_well ["_law_script"] (defScope s_well) := ⟨rfl, rfl, rfl, by decide +kernel, rfl, by decide +kernel, by decide +kernel⟩
abbrev s_draw : Stmt := topS 8
abbrev nm_draw : List Str := ["_law_well_here", "_law_size", "_law_rest", "_law_count", "_law_mixed"]
theorem sc_draw : FnScope nm_draw ["_law_well_here", "_law_size"] (defScope s_draw) := ⟨rfl, rfl, rfl, by decide +kernel, rfl, by decide +kernel, by decide +kernel⟩
abbrev s_pick : Stmt := topS 9
abbrev nm_pick : List Str := ["_law_well_here", "_law_items"]
theorem sc_pick : FnScope nm_pick ["_law_well_here", "_law_items"] (defScope s_pick) := ⟨rfl, rfl, rfl, by decide +kernel, rfl, by decide +kernel, by decide +kernel⟩
abbrev s_far : Stmt := topS 10
abbrev nm_far : List Str := ["_law_well_here", "_law_kind", "_law_found"]
theorem sc_far : FnScope nm_far ["_law_well_here"] (defScope s_far) := ⟨rfl, rfl, rfl, by decide +kernel, rfl, by decide +kernel, by decide +kernel⟩
abbrev s_bits : Stmt := topS 11
abbrev nm_bits : List Str := ["_law_well_here", "_law_size", "_law_found", "_law_turn", "_law_mixed", "_law_k"]
theorem sc_bits : FnScope nm_bits ["_law_well_here", "_law_size"] (defScope s_bits) := ⟨rfl, rfl, rfl, by decide +kernel, rfl, by decide +kernel, by decide +kernel⟩
abbrev s_word : Stmt := topS 12
abbrev nm_word : List Str := ["_law_well_here", "_law_size", "_law_kind", "_law_at", "_law_own", "_law_odd", "_law_short", "_law_found"]
theorem sc_word : FnScope nm_word ["_law_well_here", "_law_size"] (defScope s_word) := ⟨rfl, rfl, rfl, by decide +kernel, rfl, by decide +kernel, by decide +kernel⟩
abbrev s_table : Stmt := topS 13
abbrev nm_table : List Str := ["_law_well_here", "_law_tall", "_law_wide"]
theorem sc_table : FnScope nm_table ["_law_well_here", "_law_tall", "_law_wide"] (defScope s_table) := ⟨rfl, rfl, rfl, by decide +kernel, rfl, by decide +kernel, by decide +kernel⟩
abbrev s_lleast : Stmt := topS 14
abbrev nm_lleast : List Str := ["_law_x", "_law_size", "_law_row_here", "_law_low", "_law_high", "_law_turn", "_law_middle"]
theorem sc_lleast : FnScope nm_lleast ["_law_x"] (defScope s_lleast) := ⟨rfl, rfl, rfl, by decide +kernel, rfl, by decide +kernel, by decide +kernel⟩
abbrev s_row : Stmt := topS 15
abbrev nm_row : List Str := ["_law_x", "_law_size"]
theorem sc_row : FnScope nm_row ["_law_x", "_law_size"] (defScope s_row) := ⟨rfl, rfl, rfl, by decide +kernel, rfl, by decide +kernel, by decide +kernel⟩
abbrev s_sign : Stmt := topS 16
abbrev nm_sign : List Str := ["_law_x", "_law_n"]
theorem sc_sign : FnScope nm_sign ["_law_x", "_law_n"] (defScope s_sign) := ⟨rfl, rfl, rfl, by decide +kernel, rfl, by decide +kernel, by decide +kernel⟩
abbrev s_great : Stmt := topS 17
abbrev nm_great : List Str := ["_law_well_here", "_law_head"]
theorem sc_great : FnScope nm_great ["_law_well_here"] (defScope s_great) := ⟨rfl, rfl, rfl, by decide +kernel, rfl, by decide +kernel, by decide +kernel⟩
abbrev s_law : Stmt := topS 18
abbrev nm_law : List Str := ["_law_script", "_law_well_here", "_law_turn", "_law_x", "_law_h", "_law_t", "_law_y", "_law_sizes", "_law_size", "_law_row_here", "_law_near", "_law_n", "_law_k", "_law_less", "_law_due", "_law_told"]
theorem sc_law : FnScope nm_law ["_law_script"] (defScope s_law) := ⟨rfl, rfl, rfl, by decide +kernel, rfl, by decide +kernel, by decide +kernel⟩
structure Tp (K : PySem.W.Frag) (mg : Str → Option Value) where
  a_least : Addr
  d_least : FuncData
  F_least : Fun K "least" "least" s_least a_least d_least
  g_least : mg "least" = some (.ref a_least)
  a_shortest : Addr
  d_shortest : FuncData
  F_shortest : Fun K "_shortest_turn" "_shortest_turn" s_shortest a_shortest d_shortest
  g_shortest : mg "_shortest_turn" = some (.ref a_shortest)
  a_alike : Addr
  d_alike : FuncData
  F_alike : Fun K "_alike_signs" "_alike_signs" s_alike a_alike d_alike
  g_alike : mg "_alike_signs" = some (.ref a_alike)
  a_has : Addr
  d_has : FuncData
  F_has : Fun K "has" "has" s_has a_has d_has
  g_has : mg "has" = some (.ref a_has)
  a_signs : Addr
  d_signs : FuncData
  F_signs : Fun K "signs" "signs" s_signs a_signs d_signs
  g_signs : mg "signs" = some (.ref a_signs)
  a_well : Addr
  d_well : FuncData
  F_well : Fun K "_law_well" "_law_well" s_well a_well d_well
  g_well : mg "_law_well" = some (.ref a_well)
  a_draw : Addr
  d_draw : FuncData
  F_draw : Fun K "_law_draw" "_law_draw" s_draw a_draw d_draw
  g_draw : mg "_law_draw" = some (.ref a_draw)
  a_pick : Addr
  d_pick : FuncData
  F_pick : Fun K "_law_pick" "_law_pick" s_pick a_pick d_pick
  g_pick : mg "_law_pick" = some (.ref a_pick)
  a_far : Addr
  d_far : FuncData
  F_far : Fun K "_law_far" "_law_far" s_far a_far d_far
  g_far : mg "_law_far" = some (.ref a_far)
  a_bits : Addr
  d_bits : FuncData
  F_bits : Fun K "_law_bits" "_law_bits" s_bits a_bits d_bits
  g_bits : mg "_law_bits" = some (.ref a_bits)
  a_word : Addr
  d_word : FuncData
  F_word : Fun K "_law_word" "_law_word" s_word a_word d_word
  g_word : mg "_law_word" = some (.ref a_word)
  a_table : Addr
  d_table : FuncData
  F_table : Fun K "_law_table" "_law_table" s_table a_table d_table
  g_table : mg "_law_table" = some (.ref a_table)
  a_lleast : Addr
  d_lleast : FuncData
  F_lleast : Fun K "_law_least" "_law_least" s_lleast a_lleast d_lleast
  g_lleast : mg "_law_least" = some (.ref a_lleast)
  a_row : Addr
  d_row : FuncData
  F_row : Fun K "_law_row" "_law_row" s_row a_row d_row
  g_row : mg "_law_row" = some (.ref a_row)
  a_sign : Addr
  d_sign : FuncData
  F_sign : Fun K "_law_sign" "_law_sign" s_sign a_sign d_sign
  g_sign : mg "_law_sign" = some (.ref a_sign)
  a_great : Addr
  d_great : FuncData
  F_great : Fun K "_law_great" "_law_great" s_great a_great d_great
  g_great : mg "_law_great" = some (.ref a_great)
  a_law : Addr
  d_law : FuncData
  F_law : Fun K "law" "law" s_law a_law d_law
  g_law : mg "law" = some (.ref a_law)
  n_abs : mg "abs" = none
  n_int : mg "int" = none
  n_len : mg "len" = none
  n_list : mg "list" = none
  n_max : mg "max" = none
  n_min : mg "min" = none
  n_range : mg "range" = none
  n_repr : mg "repr" = none
  n_str : mg "str" = none
  n_sum : mg "sum" = none
section
variable {K : PySem.W.Frag} {mg : Str → Option Value} (T : Tp K mg)
theorem b_least : Binds K T.d_least ["table"] [] := T.F_least.binds (ps := ["table"]) fun _ _ _ _ _ _ us hl => match us, hl with | [_], _ => rfl
theorem b_shortest : Binds K T.d_shortest ["turn"] [] := T.F_shortest.binds (ps := ["turn"]) fun _ _ _ _ _ _ us hl => match us, hl with | [_], _ => rfl
theorem b_alike : Binds K T.d_alike ["head", "turn"] [] := T.F_alike.binds (ps := ["head", "turn"]) fun _ _ _ _ _ _ us hl => match us, hl with | [_, _], _ => rfl
theorem b_has : Binds K T.d_has ["table", "number"] [] := T.F_has.binds (ps := ["table", "number"]) fun _ _ _ _ _ _ us hl => match us, hl with | [_, _], _ => rfl
theorem b_signs : Binds K T.d_signs ["table", "many"] [] := T.F_signs.binds (ps := ["table", "many"]) fun _ _ _ _ _ _ us hl => match us, hl with | [_, _], _ => rfl
theorem b_well : Binds K T.d_well ["_law_script"] [] := T.F_well.binds (ps := ["_law_script"]) fun _ _ _ _ _ _ us hl => match us, hl with | [_], _ => rfl
theorem b_draw : Binds K T.d_draw ["_law_well_here", "_law_size"] [] := T.F_draw.binds (ps := ["_law_well_here", "_law_size"]) fun _ _ _ _ _ _ us hl => match us, hl with | [_, _], _ => rfl
theorem b_pick : Binds K T.d_pick ["_law_well_here", "_law_items"] [] := T.F_pick.binds (ps := ["_law_well_here", "_law_items"]) fun _ _ _ _ _ _ us hl => match us, hl with | [_, _], _ => rfl
theorem b_far : Binds K T.d_far ["_law_well_here"] [] := T.F_far.binds (ps := ["_law_well_here"]) fun _ _ _ _ _ _ us hl => match us, hl with | [_], _ => rfl
theorem b_bits : Binds K T.d_bits ["_law_well_here", "_law_size"] [] := T.F_bits.binds (ps := ["_law_well_here", "_law_size"]) fun _ _ _ _ _ _ us hl => match us, hl with | [_, _], _ => rfl
theorem b_word : Binds K T.d_word ["_law_well_here", "_law_size"] [] := T.F_word.binds (ps := ["_law_well_here", "_law_size"]) fun _ _ _ _ _ _ us hl => match us, hl with | [_, _], _ => rfl
theorem b_table : Binds K T.d_table ["_law_well_here", "_law_tall", "_law_wide"] [] := T.F_table.binds (ps := ["_law_well_here", "_law_tall", "_law_wide"]) fun _ _ _ _ _ _ us hl => match us, hl with | [_, _, _], _ => rfl
theorem b_lleast : Binds K T.d_lleast ["_law_x"] [] := T.F_lleast.binds (ps := ["_law_x"]) fun _ _ _ _ _ _ us hl => match us, hl with | [_], _ => rfl
theorem b_row : Binds K T.d_row ["_law_x", "_law_size"] [] := T.F_row.binds (ps := ["_law_x", "_law_size"]) fun _ _ _ _ _ _ us hl => match us, hl with | [_, _], _ => rfl
theorem b_sign : Binds K T.d_sign ["_law_x", "_law_n"] [] := T.F_sign.binds (ps := ["_law_x", "_law_n"]) fun _ _ _ _ _ _ us hl => match us, hl with | [_, _], _ => rfl
theorem b_great : Binds K T.d_great ["_law_well_here"] [] := T.F_great.binds (ps := ["_law_well_here"]) fun _ _ _ _ _ _ us hl => match us, hl with | [_], _ => rfl
theorem b_law : Binds K T.d_law ["_law_script"] [] := T.F_law.binds (ps := ["_law_script"]) fun _ _ _ _ _ _ us hl => match us, hl with | [_], _ => rfl
end
section
variable {P : Program} {wd : World} {K : PySem.W.Frag} {mg : Str → Option Value} {base : Heap} (T : Tp K mg)
/-- a draw: any number below the size -/
def spDraw : Sp := fun vs H Q _ => ∃ (w g : Addr) (n : Int), vs = [.ref w, .int n] ∧ WellAt w g H ∧ 0 < n ∧ n < 1073741824 ∧
  ∀ (d : Int) H', Go w g H H' → WellAt w g H' → 0 ≤ d → d < n → Q (.int d) H'
theorem ok_draw : FnOk P wd K mg base CX0 1 T.a_draw T.d_draw ["_law_well_here", "_law_size"] spDraw := by
  refine T.F_draw.ok sc_draw (fun vs H Q E h => ?_) (fun cdv A outer s H vs Q E hr h => ?_)
  · obtain ⟨w, g, n, rfl, _⟩ := h
    rfl
  · have hu4 : (cxOf CX0 P wd K mg base nm_draw "_law_draw" (defScope s_draw) T.a_draw cdv A outer s H E).A.units + 64 < cLine := hr.units
    obtain ⟨w, g, n, rfl, W, n0, n1, q⟩ := h
    refine ⟨_, (pss_cons (ps_if (pt_cmpR (op_neD hu4) (pe_ix ix_list (pv 0) pe_int (fun _ _ => rfl)) (pe_lst pa_nil) (nomark _)) (pss_cons (ps_set (i := 2) sc_draw.nd rfl (Or.inl rfl) (pe_ix ix_list (pe_ix ix_list (pv 0) pe_int (fun _ _ => rfl)) pe_int (fun _ _ => rfl)))
      (pss_cons (ps_asg (pe_op op_fdiv (pv 2) (pv 1)) (pg_sub (pe_ix ix_list (pv 0) pe_int (fun _ _ => rfl)) pe_int set_list))
      (pss_cons (ps_if (pt_cmpR op_lt (pv 2) (pv 1) (nomark _)) (pss_one (ps_expr (pe_bm PySem.F.plainAttrs_list PySem.F.slot_list_pop PySem.F.type_list_pop mt_popAt (pe_ix ix_list (pv 0) pe_int (fun _ _ => rfl)) (pa_cons pe_int pa_nil)))) pss_nil)
      (pss_one (ps_ret (pe_op op_mod (pe_callTy call_int1 rfl T.n_int (by decide +kernel) (pa_cons (pv 2) pa_nil)) (pv 1))))))) pss_nil)
      (pss_cons (ps_asg (pe_op op_add (pe_ix ix_list (pv 0) pe_int (fun _ _ => rfl)) pe_int) (pg_sub (pv 0) pe_int set_list))
      (pss_cons (ps_set (i := 3) sc_draw.nd rfl (Or.inl rfl) (pe_callTy call_int1 rfl T.n_int (by decide +kernel) (pa_cons (pe_ix ix_list (pv 0) pe_int (fun _ _ => rfl)) pa_nil)))
      (pss_cons (ps_set (i := 4) sc_draw.nd rfl (Or.inl rfl) (pe_op op_mod (pe_callTy call_int1 rfl T.n_int (by decide +kernel) (pa_cons (pe_op op_add (pe_op op_add (pe_op op_mul (pe_ix ix_list (pe_ix ix_list (pv 0) pe_int (fun _ _ => rfl)) (pe_op op_mod (pv 3) (pe_callB call_len_seq rfl T.n_len PySem.boot_len (pa_cons (pe_ix ix_list (pv 0) pe_int (fun _ _ => rfl)) pa_nil))) (fun _ _ => rfl)) pe_int) (pe_op op_mul (pe_ix ix_list (pe_ix ix_list (pv 0) pe_int (fun _ _ => rfl)) (pe_un un_neg pe_int) (fun _ _ => rfl)) pe_int)) (pe_op op_mul (pv 3) pe_int)) pa_nil)) pe_int))
      (pss_cons (ps_set (i := 4) sc_draw.nd rfl (Or.inl rfl) (pe_op op_mod (pe_callTy call_int1 rfl T.n_int (by decide +kernel) (pa_cons (pe_op op_add (pe_op op_mul (pv 4) (pv 4)) (pe_op op_mul (pv 3) pe_int)) pa_nil)) pe_int))
      (pss_one (ps_ret (pe_op op_mod (pe_op op_fdiv (pe_op op_mod (pe_callTy call_int1 rfl T.n_int (by decide +kernel) (pa_cons (pe_op op_add (pe_op op_mul (pv 4) (pv 4)) (pe_op op_mul pe_int (pv 4))) pa_nil)) pe_int) pe_int) (pv 1))))))))), ?_⟩
    obtain ⟨c, gs, cs, k, e1, e2, e3, hw, hg, hc, h0, hgs, hcs⟩ := W
    walk_at "go"
    intro o no
    have nwo := ne_of_none hw no
    have ngo := ne_of_none hg no
    have nco := ne_of_none hc no
    have s1 : Same H (upd H o (.lst [])) := same_new no
    have ho : (upd H o (.lst [])) o = some (.lst []) := upd_same
    generalize upd H o (.lst []) = H1 at s1 ho
    replace hw := s1 _ _ hw
    replace hg := s1 _ _ hg
    replace hc := s1 _ _ hc
    refine ⟨.list (gs.map PyData.int), .list [], .lst (sqL_of hg) (dpAll_ints _), .lst (sqL_of ho) .nil, shaped_ints _, by rfl, _, rfl, ?_⟩
    rw [eqv_ints_nil]
    refine ifDn (fun hne => ?_) (fun he => ?_)
    · obtain ⟨r, gs', rfl⟩ : ∃ r gs', gs = r :: gs' := by
        cases gs with
        | nil => exact absurd rfl hne
        | cons r gs' => exact ⟨r, gs', rfl⟩
      rw [List.map_cons] at hg
      walk_at "go"
      refine ⟨_, _, _, 0, rfl, rfl, hg, ix_zero (by simp), ?_⟩
      -- if rest < size
      have hg2 : (upd H1 g (.lst ((V.int r :: gs'.map V.int).set 0 (V.int (r / n))))) g = some (.lst (((r / n) :: gs').map V.int)) := upd_same
      have hw2 : (upd H1 g (.lst ((V.int r :: gs'.map V.int).set 0 (V.int (r / n))))) w = _ := (upd_ne e1).trans hw
      have hc2 : (upd H1 g (.lst ((V.int r :: gs'.map V.int).set 0 (V.int (r / n))))) c = _ := (upd_ne e2).trans hc
      have s2 : Go w g H (upd H1 g (.lst ((V.int r :: gs'.map V.int).set 0 (V.int (r / n))))) := fun a x n1 n2 e => by
        rw [upd_ne n2]
        exact s1 _ _ e
      generalize upd H1 g (.lst ((V.int r :: gs'.map V.int).set 0 (V.int (r / n)))) = H2 at hg2 hw2 hc2 s2
      walk_at "go"
      refine ifD (fun lt => ?_) (fun nlt => ?_)
      · walk_at "go"
        refine ⟨Or.inl ⟨rfl, _, sqL_of hg2⟩, ?_⟩
        refine ⟨_, _, 0, 0, .int (r / n), rfl, rfl, hg2, by decide, by decide, by rw [List.length_map, List.length_cons]; exact seq_zero _, rfl, ?_⟩
        have hg3 : (upd H2 g (.lst ((((r / n) :: gs').map V.int).eraseIdx 0))) g = some (.lst (gs'.map V.int)) := upd_same
        have hw3 : (upd H2 g (.lst ((((r / n) :: gs').map V.int).eraseIdx 0))) w = _ := (upd_ne e1).trans hw2
        have hc3 : (upd H2 g (.lst ((((r / n) :: gs').map V.int).eraseIdx 0))) c = _ := (upd_ne e2).trans hc2
        have s3 : Go w g H (upd H2 g (.lst ((((r / n) :: gs').map V.int).eraseIdx 0))) := fun a x n1 n2 e => by
          rw [upd_ne n2]
          exact s2 _ _ n1 n2 e
        generalize upd H2 g (.lst ((((r / n) :: gs').map V.int).eraseIdx 0)) = H3 at hg3 hw3 hc3 s3
        walk_at "go"
        exact q _ _ s3 ⟨c, gs', cs, k, e1, e2, e3, hw3, hg3, hc3, h0, by rw [List.length_cons] at hgs; omega, hcs⟩ (Int.emod_nonneg _ (by omega)) (Int.emod_lt_of_pos _ n0)
      · walk_at "go"
        exact q _ _ s2 ⟨c, _, cs, k, e1, e2, e3, hw2, hg2, hc2, h0, by rw [List.length_cons] at hgs ⊢; omega, hcs⟩ (Int.emod_nonneg _ (by omega)) (Int.emod_lt_of_pos _ n0)
    · subst he
      walk_at "go"
      refine ⟨_, _, _, 2, rfl, rfl, hw, ix_at (j := 2) rfl (by simp), ?_⟩
      have hw2 : (upd H1 w (.lst ([V.ref g, V.ref c, V.int k].set 2 (V.int (k + 1))))) w = some (.lst [V.ref g, V.ref c, V.int (k + 1)]) := upd_same
      have hg2 : (upd H1 w (.lst ([V.ref g, V.ref c, V.int k].set 2 (V.int (k + 1))))) g = _ := (upd_ne e1.symm).trans hg
      have hc2 : (upd H1 w (.lst ([V.ref g, V.ref c, V.int k].set 2 (V.int (k + 1))))) c = _ := (upd_ne e3).trans hc
      have s2 : Go w g H (upd H1 w (.lst ([V.ref g, V.ref c, V.int k].set 2 (V.int (k + 1))))) := fun a x n1 n2 e => by
        rw [upd_ne n1]
        exact s1 _ _ e
      generalize upd H1 w (.lst ([V.ref g, V.ref c, V.int k].set 2 (V.int (k + 1)))) = H2 at hg2 hw2 hc2 s2
      have hm : ((k + 1) % (((cs.map V.int).length : Nat) : Int)).toNat < cs.length := by
        rw [List.length_map]
        have h1 := Int.emod_nonneg (k + 1) (show (cs.length : Int) ≠ 0 by omega)
        have h2 := Int.emod_lt_of_pos (k + 1) (show 0 < (cs.length : Int) by omega)
        omega
      obtain ⟨x, hx⟩ : ∃ x, cs[((k + 1) % (((cs.map V.int).length : Nat) : Int)).toNat]? = some x := ⟨_, List.getElem?_eq_getElem hm⟩
      obtain ⟨z, hz⟩ : ∃ z, cs[cs.length - 1]? = some z := ⟨_, List.getElem?_eq_getElem (by omega)⟩
      walk_at "go"
      refine go_ixLi (xs := cs.map V.int) (v := .int x) hc2 (j := ((k + 1) % (((cs.map V.int).length : Nat) : Int)).toNat) ?_ (by rw [List.getElem?_map, hx]; rfl) ?_
      · rw [Int.toNat_of_nonneg (Int.emod_nonneg _ (by rw [List.length_map]; omega))]
      walk_at "go"
      refine go_ixLast (v := .int z) hc2 (by rw [List.length_map, List.getElem?_map, hz]; rfl) ?_
      walk_at "go"
      exact q _ _ s2 ⟨c, [], cs, k + 1, e1, e2, e3, hw2, hg2, hc2, h0, hgs, hcs⟩ (Int.emod_nonneg _ (by omega)) (Int.emod_lt_of_pos _ n0)
end
section
variable {P : Program} {wd : World} {K : PySem.W.Frag} {mg : Str → Option Value} {base : Heap} (T : Tp K mg)
/-- one of the items -/
def spPick : Sp := fun vs H Q _ => ∃ (w g l : Addr) (xs : List V), vs = [.ref w, .ref l] ∧ WellAt w g H ∧ At w g H l (.lst xs) ∧ 0 < xs.length ∧ xs.length < 1000000 ∧
  ∀ x H', x ∈ xs → Go w g H H' → WellAt w g H' → Q x H'
theorem ok_pick : FnOk P wd K mg base CX0 2 T.a_pick T.d_pick ["_law_well_here", "_law_items"] spPick := by
  have G_draw : FnOk P wd K mg base CX0 1 T.a_draw T.d_draw ["_law_well_here", "_law_size"] spDraw := ok_draw T
  refine T.F_pick.ok sc_pick (fun vs H Q E h => ?_) (fun cdv A outer s H vs Q E hr h => ?_)
  · obtain ⟨w, g, l, xs, rfl, _⟩ := h
    rfl
  · obtain ⟨w, g, l, xs, rfl, W, L, l0, l1, q⟩ := h
    refine ⟨_, (pss_one (ps_ret (pe_ix ix_list (pv 1) (pe_call G_draw hr rfl T.g_draw T.F_draw.kp (b_draw T) .nil pass0 (pa_cons (pv 0) (pa_cons (pe_callB call_len_seq rfl T.n_len PySem.boot_len (pa_cons (pv 1) pa_nil)) pa_nil))) (fun _ _ => rfl)))), ?_⟩
    have hl := L.at_
    walk_at "go"
    refine ⟨w, g, _, rfl, W, by omega, by omega, fun d H' s1 W1 d0 d1 => ?_⟩
    have L1 := L.go s1
    have hl1 := L1.at_
    obtain ⟨x, hx⟩ : ∃ x, xs[d.toNat]? = some x := ⟨_, List.getElem?_eq_getElem (by omega)⟩
    refine go_ixLi hl1 (j := d.toNat) (by omega) hx ?_
    exact q x H' (List.mem_of_getElem? hx) s1 W1

/-- a far number -/
def spFar : Sp := fun vs H Q _ => ∃ (w g : Addr), vs = [.ref w] ∧ WellAt w g H ∧
  ∀ (d : Int) H', Go w g H H' → WellAt w g H' → 0 ≤ d → d ≤ 1000000000000002000 → Q (.int d) H'
theorem ok_far : FnOk P wd K mg base CX0 2 T.a_far T.d_far ["_law_well_here"] spFar := by
  have G_draw : FnOk P wd K mg base CX0 1 T.a_draw T.d_draw ["_law_well_here", "_law_size"] spDraw := ok_draw T
  refine T.F_far.ok sc_far (fun vs H Q E h => ?_) (fun cdv A outer s H vs Q E hr h => ?_)
  · obtain ⟨w, g, rfl, _⟩ := h
    rfl
  · obtain ⟨w, g, rfl, W, q⟩ := h
    refine ⟨_, (pss_cons (ps_set (i := 1) sc_far.nd rfl (Or.inl rfl) (pe_call G_draw hr rfl T.g_draw T.F_draw.kp (b_draw T) .nil pass0 (pa_cons (pv 0) (pa_cons pe_int pa_nil))))
      (pss_cons (ps_if (pt_cmpR op_lt (pv 1) pe_int (nomark _)) (pss_one (ps_ret (pe_call G_draw hr rfl T.g_draw T.F_draw.kp (b_draw T) .nil pass0 (pa_cons (pv 0) (pa_cons (pe_ix ix_list (pe_lst (pa_cons pe_int (pa_cons pe_int pa_nil))) (pv 1) (fun _ _ => rfl)) pa_nil))))) pss_nil)
      (pss_cons (ps_if (pt_cmpR op_eq (pv 1) pe_int (nomark _)) (pss_one (ps_ret (pe_op op_add (pe_op op_add (pe_op op_pow pe_int pe_int) pe_int) (pe_call G_draw hr rfl T.g_draw T.F_draw.kp (b_draw T) .nil pass0 (pa_cons (pv 0) (pa_cons pe_int pa_nil)))))) pss_nil)
      (pss_cons (ps_if (pt_cmpR op_eq (pv 1) pe_int (nomark _)) (pss_one (ps_ret (pe_op op_sub (pe_op op_pow pe_int pe_int) (pe_call G_draw hr rfl T.g_draw T.F_draw.kp (b_draw T) .nil pass0 (pa_cons (pv 0) (pa_cons pe_int pa_nil)))))) pss_nil)
      (pss_cons (ps_set (i := 2) sc_far.nd rfl (Or.inl rfl) (pe_op op_add (pe_op op_add (pe_call G_draw hr rfl T.g_draw T.F_draw.kp (b_draw T) .nil pass0 (pa_cons (pv 0) (pa_cons (pe_op op_pow pe_int pe_int) pa_nil))) (pe_op op_mul (pe_op op_pow pe_int pe_int) (pe_call G_draw hr rfl T.g_draw T.F_draw.kp (b_draw T) .nil pass0 (pa_cons (pv 0) (pa_cons (pe_op op_pow pe_int pe_int) pa_nil))))) (pe_op op_mul (pe_op op_pow pe_int pe_int) (pe_call G_draw hr rfl T.g_draw T.F_draw.kp (b_draw T) .nil pass0 (pa_cons (pv 0) (pa_cons (pe_op op_pow pe_int pe_int) pa_nil))))))
      (pss_one (ps_ret (pe_ifExp (pt_cmpR op_eq (pv 1) pe_int (nomark _)) (pv 2) (pe_op op_mod (pe_callTy call_int1 rfl T.n_int (by decide +kernel) (pa_cons (pv 2) pa_nil)) (pe_op op_pow pe_int pe_int)))))))))), ?_⟩
    walk_at "go"
    refine ⟨w, g, _, rfl, W, by omega, by omega, fun d H1 s1 W1 d0 d1 => ?_⟩
    walk_at "go"
    refine ifD (fun lt => ?_) (fun nlt => ?_)
    · walk_at "go"
      intro p np
      generalize hU : upd H1 p _ = H2
      obtain ⟨s2, W2, ap⟩ := new_of W1 np hU
      have hp := ap.at_
      have key : ∃ n : Int, [V.int 12, V.int 20000][d.toNat]? = some (.int n) ∧ 0 < n ∧ n ≤ 20000 := by
        have h : d = 0 ∨ d = 1 := by omega
        rcases h with rfl | rfl
        · exact ⟨12, rfl, by omega, by omega⟩
        · exact ⟨20000, rfl, by omega, by omega⟩
      obtain ⟨n, hn, n0, n1⟩ := key
      walk_at "go"
      refine go_ixLi hp (j := d.toNat) (by omega) hn ?_
      refine ⟨w, g, _, rfl, W2, n0, by omega, fun e H3 s3 W3 e0 e1 => ?_⟩
      exact q e H3 ((s1.trans (Go.of s2)).trans s3) W3 e0 (by omega)
    · walk_at "go"
      refine ifD (fun e5 => ?_) (fun n5 => ?_)
      · walk_at "go"
        refine ⟨w, g, _, rfl, W1, by omega, by omega, fun e H3 s3 W3 e0 e1 => ?_⟩
        walk_at "go"
        exact q _ H3 (s1.trans s3) W3 (by simp; omega) (by simp; omega)
      · walk_at "go"
        refine ifD (fun e5 => ?_) (fun n5 => ?_)
        · walk_at "go"
          refine ⟨w, g, _, rfl, W1, by omega, by omega, fun e H3 s3 W3 e0 e1 => ?_⟩
          walk_at "go"
          exact q _ H3 (s1.trans s3) W3 (by simp; omega) (by simp; omega)
        · walk_at "go"
          refine ⟨w, g, _, rfl, W1, by simp, by simp, fun a H2 s2 W2 a0 a1 => ?_⟩
          walk_at "go"
          refine ⟨w, g, _, rfl, W2, by simp, by simp, fun b H3 s3 W3 b0 b1 => ?_⟩
          walk_at "go"
          refine ⟨w, g, _, rfl, W3, by simp, by simp, fun c H4 s4 W4 c0 c1 => ?_⟩
          walk_at "go"
          have S := ((s1.trans s2).trans s3).trans s4
          simp at a1 b1 c1
          refine ifD (fun e3 => ?_) (fun n3 => ?_)
          · walk_at "go"
            exact q _ H4 S W4 (by simp; omega) (by simp; omega)
          · walk_at "go"
            refine q _ H4 S W4 ?_ ?_
            · exact Int.emod_nonneg _ (by decide)
            · exact Int.le_trans (Int.le_of_lt (Int.emod_lt_of_pos _ (by decide))) (by decide)

/-! ### the well -/
theorem sum_of (ns : List Int) : (ns.map V.int) = ns.map V.int := rfl
def spWell (K : PySem.W.Frag) : Sp := fun vs H Q _ => ∃ (a : Addr) (ns : List Int), vs = [.ref a] ∧ SqL K H a (ns.map V.int) ∧ ns.length ≤ 63 ∧
  ∀ w g H', Same H H' → WellAt w g H' → Q (.ref w) H'
theorem cut63 {xs : List V} {n : Nat} (h : xs.length ≤ n) : cutV xs none (some (n : Int)) = xs := by
  unfold cutV
  rw [sIx_of _ _ (by omega)]
  show (xs.drop 0).take (min (n : Int).toNat xs.length - 0) = xs
  rw [List.drop_zero, Nat.sub_zero, Int.toNat_natCast, Nat.min_eq_right h, List.take_length]
theorem ok_well : FnOk P wd K mg base CX0 1 T.a_well T.d_well ["_law_script"] (spWell K) := by
  refine T.F_well.ok sc_well (fun vs H Q E h => ?_) (fun cdv A outer s H vs Q E hr h => ?_)
  · obtain ⟨a, ns, rfl, _⟩ := h
    rfl
  · obtain ⟨a, ns, rfl, hS, hl, q⟩ := h
    refine ⟨_, (pss_cons (ps_setLc (i := 1) (own := [("_law_cell", 3)]) rfl sc_well.nd rfl rfl (sw_true rfl rfl rfl (by decide +kernel)) (pi_list (pe_slice sl_list (pv 0) po_none (po_some pe_int))) (blkOk_by (N := nm_well) (sc := defScope s_well) (by decide +kernel)) (fun _ _ _ _ _ => pg_name (i := 3) sc_well.nd rfl (Or.inl rfl)) (fun _ _ _ _ _ => pts_one (pt_cmpR op_ge (pe_callB call_abs rfl T.n_abs (by decide +kernel) (pa_cons (pv 3) pa_nil)) (pe_op op_pow pe_int pe_int) (nomark _))) (fun _ _ _ _ _ => (pe_callB call_abs rfl T.n_abs (by decide +kernel) (pa_cons (pv 3) pa_nil))))
      (pss_cons (ps_setLc (i := 2) (own := [("_law_cell", 3)]) rfl sc_well.nd rfl rfl (sw_true rfl rfl rfl (by decide +kernel)) (pi_list (pe_slice sl_list (pv 0) po_none (po_some pe_int))) (blkOk_by (N := nm_well) (sc := defScope s_well) (by decide +kernel)) (fun _ _ _ _ _ => pg_name (i := 3) sc_well.nd rfl (Or.inl rfl)) (fun _ _ _ _ _ => pts_nil) (fun _ _ _ _ _ => (pe_ifExp (pt_cmpR op_gt (pv 3) pe_int (nomark _)) (pe_op op_mul pe_int (pv 3)) (pe_op op_sub pe_int (pe_op op_mul pe_int (pv 3))))))
      (pss_one (ps_ret (pe_lst (pa_cons (pv 1) (pa_cons (pe_op op_cat (pv 2) (pe_lst (pa_cons (pe_op op_add (pe_op op_add (pe_callB (cr_sum rfl) rfl T.n_sum (by decide +kernel) (pa_cons (pv 2) pa_nil)) (pe_op op_mul pe_int (pe_callB call_len_seq rfl T.n_len PySem.boot_len (pa_cons (pv 2) pa_nil)))) pe_int) pa_nil))) (pa_cons pe_int pa_nil)))))))), ?_⟩
    walk_at "go"
    refine ⟨a, ns.map V.int, rfl, hS, ?_⟩
    rw [show (63 : Int) = ((63 : Nat) : Int) from rfl, cut63 (by rw [List.length_map]; exact hl)]
    intro c nc
    generalize hU : upd H c _ = H1
    obtain ⟨s1, hc⟩ := new_of0 nc hU
    refine ⟨c, rfl, ⟨_, sqL_of hc⟩, fun D nD => ?_⟩
    have mc : D ≠ c := (ne_of_none hc nD).symm
    refine lc_list (xs := ns.map V.int) (fun i H2 => ∃ gs : List Int, H2 D = some (.lst (gs.map V.int)) ∧ gs.length ≤ i ∧ Same H1 H2) ⟨[], upd_same, Nat.zero_le _, same_new nD⟩
      (fun i H2 _ p => sqL_of (p.choose_spec.2.2 _ _ hc)) (fun i x H2 hx p => ?_) (fun H2 p => ?_)
    · obtain ⟨gs, hD, hg, S⟩ := p
      obtain ⟨z, rfl⟩ : ∃ z, x = V.int z := by
        rw [List.getElem?_map] at hx
        cases e : ns[i]? with
        | none => rw [e] at hx; cases hx
        | some z => rw [e] at hx; exact ⟨z, (Option.some.inj hx).symm⟩
      refine ⟨rfl, ?_⟩
      walk_at "go"
      refine ifD (fun big => ?_) (fun nb => ?_)
      · walk_at "go"
        have hil : i < (ns.map V.int).length := (List.getElem?_eq_some_iff.mp hx).1
        rw [List.length_map] at hil
        refine ⟨_, hD, small1000 (by rw [List.length_map]; omega), gs ++ [_], by rw [upd_same, List.map_append]; rfl, by rw [List.length_append]; simp; omega, same_mut S nD⟩
      · exact ⟨gs, hD, by omega, S⟩
    · obtain ⟨gs, hD, hg, S⟩ := p
      rw [List.length_map] at hg
      walk_at "go"
      have S0 : Same H H2 := s1.trans S
      refine ⟨a, ns.map V.int, rfl, S0.seq hS, ?_⟩
      rw [cut63 (by rw [List.length_map]; exact hl)]
      intro c2 nc2
      generalize hU2 : upd H2 c2 _ = H3
      obtain ⟨s3, hc2⟩ := new_of0 nc2 hU2
      refine ⟨c2, rfl, ⟨_, sqL_of hc2⟩, fun D2 nD2 => ?_⟩
      refine lc_list (xs := ns.map V.int) (fun i H2 => ∃ gs : List Int, H2 D2 = some (.lst (gs.map V.int)) ∧ gs.length = i ∧ Same H3 H2) ⟨[], upd_same, rfl, same_new nD2⟩
        (fun i H2 _ p => sqL_of (p.choose_spec.2.2 _ _ hc2)) (fun i x H2 hx p => ?_) (fun H4 p => ?_)
      · obtain ⟨cs, hD2, hg2, S2⟩ := p
        obtain ⟨z, rfl⟩ : ∃ z, x = V.int z := by
          rw [List.getElem?_map] at hx
          cases e : ns[i]? with
          | none => rw [e] at hx; cases hx
          | some z => rw [e] at hx; exact ⟨z, (Option.some.inj hx).symm⟩
        have hil : i < (ns.map V.int).length := (List.getElem?_eq_some_iff.mp hx).1
        rw [List.length_map] at hil
        refine ⟨rfl, ?_⟩
        walk_at "go"
        refine ifD (fun big => ?_) (fun nb => ?_)
        · walk_at "go"
          refine ⟨_, hD2, small1000 (by rw [List.length_map]; omega), cs ++ [_], by rw [upd_same, List.map_append]; rfl, by rw [List.length_append]; simp; omega, same_mut S2 nD2⟩
        · walk_at "go"
          refine ⟨_, hD2, small1000 (by rw [List.length_map]; omega), cs ++ [_], by rw [upd_same, List.map_append]; rfl, by rw [List.length_append]; simp; omega, same_mut S2 nD2⟩
      · obtain ⟨cs, hD2, hg2, S2⟩ := p
        rw [List.length_map] at hg2
        walk_at "go"
        refine ⟨D2, cs, rfl, sqL_of hD2, ?_⟩
        walk_at "go"
        intro e ne
        generalize hU3 : upd H4 e _ = H5
        obtain ⟨s5, he⟩ := new_of0 ne hU3
        have hD3 := s5 _ _ hD2
        refine ⟨D2, e, _, _, rfl, rfl, hD3, he, ?_, fun p np => ?_⟩
        · exact Nat.le_trans (by rw [List.length_map]; simp; omega) (show 1000 ≤ sizeLine by decide)
        generalize hU6 : upd H5 p _ = H6
        obtain ⟨s6, hp⟩ := new_of0 np hU6
        walk_at "go"
        intro w nw
        generalize hU7 : upd H6 w _ = H7
        obtain ⟨s7, hw⟩ := new_of0 nw hU7
        have hDg : H6 D = some (.lst (gs.map V.int)) := s6 _ _ (s5 _ _ (S2 _ _ (s3 _ _ hD)))
        have Sall : Same H H7 := fun b o z => s7 _ _ (s6 _ _ (s5 _ _ (S2 _ _ (s3 _ _ (S0 _ _ z)))))
        have hpc : ∃ cs2 : List Int, H7 p = some (.lst (cs2.map V.int)) ∧ cs2.length = cs.length + 1 :=
          ⟨cs ++ [_], by rw [List.map_append]; exact s7 _ _ hp, by rw [List.length_append]; rfl⟩
        obtain ⟨cs2, hp2, hl2⟩ := hpc
        refine q w D H7 Sall ⟨p, gs, cs2, 0, (ne_of_none hDg nw).symm, ?_, ?_, hw, s7 _ _ hDg, hp2, by omega, by omega, by omega⟩
        · exact (ne_of_none (s5 _ _ (S2 _ _ (s3 _ _ hD))) np).symm
        · exact ne_of_none hp nw
end
section
variable {P : Program} {wd : World} {K : PySem.W.Frag} {mg : Str → Option Value} {base : Heap} (T : Tp K mg)
/-- a text of so many signs -/
def spBits : Sp := fun vs H Q _ => ∃ (w g : Addr) (n : Int), vs = [.ref w, .int n] ∧ WellAt w g H ∧ 0 ≤ n ∧ n ≤ 5000 ∧
  ∀ (l : List Bool) H', Go w g H H' → WellAt w g H' → (l.length : Int) = n → Q (.str (B l)) H'
theorem ok_bits : FnOk P wd K mg base CX0 2 T.a_bits T.d_bits ["_law_well_here", "_law_size"] spBits := by
  have G_draw : FnOk P wd K mg base CX0 1 T.a_draw T.d_draw ["_law_well_here", "_law_size"] spDraw := ok_draw T
  refine T.F_bits.ok sc_bits (fun vs H Q E h => ?_) (fun cdv A outer s H vs Q E hr h => ?_)
  · obtain ⟨w, g, n, rfl, _⟩ := h
    rfl
  · obtain ⟨w, g, n, rfl, W, n0, n1, q⟩ := h
    refine ⟨_, (pss_cons (ps_set (i := 2) sc_bits.nd rfl (Or.inl rfl) pe_str)
      (pss_cons (ps_for PassesOwn.never rfl (pi_range1 rfl T.n_range (pa_cons (pe_op op_add (pe_op op_fdiv (pv 1) pe_int) pe_int) pa_nil)) (pg_name (i := 3) sc_bits.nd rfl (Or.inl rfl)) (pss_cons (ps_set (i := 4) sc_bits.nd rfl (Or.inr rfl) (pe_call G_draw hr rfl T.g_draw T.F_draw.kp (b_draw T) .nil pass0 (pa_cons (pv 0) (pa_cons pe_int pa_nil))))
      (pss_one (ps_set (i := 2) sc_bits.nd rfl (Or.inl rfl) (pe_op op_add_str (pv 2) (pe_bm PySem.F.plainAttrs_str PySem.F.slot_str_join PySem.F.type_str_join mt_join pe_str (pa_cons (pe_lc (own := [("_law_k", 5)]) rfl sc_bits.nd (pi_range1 rfl T.n_range (pa_cons pe_int pa_nil)) (blkOk_by (N := nm_bits) (sc := defScope s_bits) (by decide +kernel)) (fun _ _ _ _ _ => pg_name (i := 5) sc_bits.nd rfl (Or.inl rfl)) (fun _ _ _ _ _ => pts_nil) (fun _ _ _ _ _ => (pe_callTy call_str_int rfl T.n_str (by decide +kernel) (pa_cons (pe_op op_mod (pe_callTy call_int1 rfl T.n_int (by decide +kernel) (pa_cons (pe_op op_shr (pv 4) (pv 5)) pa_nil)) pe_int) pa_nil)))) pa_nil)))))))
      (pss_one (ps_ret (pe_slice sl_str (pv 2) po_none (po_some (pv 1))))))), ?_⟩
    walk_at "go"
    rw [show ("" : Str) = B [] from B_nil]
    refine for_range (n := (n / 16 + 1).toNat) (fun i σ H2 => ∃ (l : List Bool) (y3 y4 y5 : Option V), σ = [some (.ref w), some (.int n), some (.str (B l)), y3, y4, y5] ∧ l.length = 16 * i ∧ Go w g H H2 ∧ WellAt w g H2)
      ⟨[], none, none, none, rfl, rfl, Go.refl, W⟩ (fun i σ H2 hi p => ?_) (fun σ H2 p => ?_)
    · obtain ⟨l, y3, y4, y5, rfl, hl, s2, W2⟩ := p
      walk_at "go"
      refine ⟨w, g, _, rfl, W2, by omega, by omega, fun d H3 s3 W3 d0 d1 => ?_⟩
      walk_at "go"
      intro D nD
      refine lc_range (n := 16) (fun j H4 => ∃ bs : List Bool, H4 D = some (.lst (bs.map fun b => V.str (B [b]))) ∧ bs.length = j ∧ Same H3 H4) ⟨[], upd_same, rfl, same_new nD⟩ (fun j H4 hj p => ?_) (fun H4 p => ?_)
      · obtain ⟨bs, hD, hb, S⟩ := p
        refine ⟨rfl, ?_⟩
        walk_at "go"
        refine ⟨_, hD, small1000 (by rw [List.length_map]; omega), bs ++ [_], by rw [upd_same, List.map_append]; rfl, by rw [List.length_append, hb]; rfl, same_mut S nD⟩
      · obtain ⟨bs, hD, hb, S⟩ := p
        walk_at "go"
        refine go_join hD (by omega) ?_
        rw [joined]
        walk_at "go"
        refine ⟨l ++ bs, _, _, _, rfl, by rw [List.length_append]; omega, (s2.trans s3).trans (Go.of S), W3.same S⟩
    · obtain ⟨l, y3, y4, y5, rfl, hl, s2, W2⟩ := p
      have hl5 : l.length ≤ 6000 := by omega
      walk_at "go"
      refine q _ H2 s2 W2 ?_
      rw [List.length_take]
      omega

theorem inV_ints (x : Int) (ys : List Int) : inV (.int x) (ys.map V.int) = decide (x ∈ ys) := by
  induction ys with
  | nil => rfl
  | cons y ys ih =>
    show (eqV (.int y) (.int x) || inV (.int x) (ys.map V.int)) = _
    rw [ih]
    by_cases h : y = x
    · subst h
      simp [eqV]
    · have h2 : ¬ x = y := fun e => h e.symm
      simp [eqV, h, h2]
/-- a word: a text of so many signs -/
theorem ok_word : FnOk P wd K mg base CX0 3 T.a_word T.d_word ["_law_well_here", "_law_size"] spBits := by
  have G_draw : FnOk P wd K mg base CX0 1 T.a_draw T.d_draw ["_law_well_here", "_law_size"] spDraw := ok_draw T
  have G_bits : FnOk P wd K mg base CX0 2 T.a_bits T.d_bits ["_law_well_here", "_law_size"] spBits := ok_bits T
  refine T.F_word.ok sc_word (fun vs H Q E h => ?_) (fun cdv A outer s H vs Q E hr h => ?_)
  · obtain ⟨w, g, n, rfl, _⟩ := h
    rfl
  · obtain ⟨w, g, n, rfl, W, n0, n1, q⟩ := h
    refine ⟨_, (pss_cons (ps_if (pt_cmpR op_lt (pv 1) pe_int (nomark _)) (pss_one (ps_ret pe_str)) pss_nil)
      (pss_cons (ps_par (i := 2) (j := 3) rfl sc_word.nd rfl rfl (by decide) rfl rfl (pa_cons (pe_call G_draw (hr.mono (by decide)) rfl T.g_draw T.F_draw.kp (b_draw T) .nil pass0 (pa_cons (pv 0) (pa_cons pe_int pa_nil))) (pa_cons (pe_call G_draw (hr.mono (by decide)) rfl T.g_draw T.F_draw.kp (b_draw T) .nil pass0 (pa_cons (pv 0) (pa_cons (pv 1) pa_nil))) pa_nil)) rfl)
      (pss_cons (ps_if (pt_cmpR op_lt (pv 2) pe_int (nomark _)) (pss_cons (ps_asg (pe_ifExp (pt_cmpR op_lt (pv 2) pe_int (nomark _)) (pe_tup (pa_cons pe_str (pa_cons pe_str pa_nil))) (pe_tup (pa_cons pe_str (pa_cons pe_str pa_nil)))) (pg_tup rfl (pgs_cons (pg_name (i := 4) sc_word.nd rfl (Or.inl rfl)) (pgs_cons (pg_name (i := 5) sc_word.nd rfl (Or.inl rfl)) pgs_nil))))
      (pss_one (ps_ret (pe_ifExp (pt_cmpR op_in_seq (pv 2) (pe_tup (pa_cons pe_int (pa_cons pe_int pa_nil))) (by rfl)) (pe_op op_mulS (pv 4) (pv 1)) (pe_op op_add_str (pe_op op_add_str (pe_op op_mulS (pv 4) (pv 3)) (pv 5)) (pe_op op_mulS (pv 4) (pe_op op_sub (pe_op op_sub (pv 1) (pv 3)) pe_int))))))) pss_nil)
      (pss_cons (ps_if (pt_cmpR op_gt (pv 2) pe_int (nomark _)) (pss_one (ps_ret (pe_slice sl_str (pe_op op_mulS (pe_call G_bits hr rfl T.g_bits T.F_bits.kp (b_bits T) .nil pass0 (pa_cons (pv 0) (pa_cons (pe_callB (call_min2 rfl) rfl T.n_min (by decide +kernel) (pa_cons (pv 1) (pa_cons pe_int pa_nil))) pa_nil))) (pe_op op_add (pe_op op_fdiv (pv 1) pe_int) pe_int)) po_none (po_some (pv 1))))) pss_nil)
      (pss_cons (ps_set (i := 6) sc_word.nd rfl (Or.inl rfl) (pe_call G_bits hr rfl T.g_bits T.F_bits.kp (b_bits T) .nil pass0 (pa_cons (pv 0) (pa_cons (pe_op op_add pe_int (pe_call G_draw (hr.mono (by decide)) rfl T.g_draw T.F_draw.kp (b_draw T) .nil pass0 (pa_cons (pv 0) (pa_cons (pe_callB (call_min2 rfl) rfl T.n_min (by decide +kernel) (pa_cons (pv 1) (pa_cons pe_int pa_nil))) pa_nil)))) pa_nil))))
      (pss_cons (ps_set (i := 7) sc_word.nd rfl (Or.inl rfl) (pe_slice sl_str (pe_op op_mulS (pv 6) (pv 1)) po_none (po_some (pv 1))))
      (pss_cons (ps_if (pt_cmpR op_eq (pv 2) pe_int (nomark _)) (pss_one (ps_set (i := 7) sc_word.nd rfl (Or.inl rfl) (pe_op op_add_str (pe_op op_add_str (pe_slice sl_str (pv 7) po_none (po_some (pv 3))) (pe_ifExp (pt_cmpR op_eq (pe_ix ix_str (pv 7) (pv 3) (fun _ _ => rfl)) pe_str (nomark _)) pe_str pe_str)) (pe_slice sl_str (pv 7) (po_some (pe_op op_add (pv 3) pe_int)) po_none)))) pss_nil)
      (pss_one (ps_ret (pv 7)))))))))), ?_⟩
    walk_at "go"
    refine ifD (fun lt => ?_) (fun nlt => ?_)
    · rw [show ("" : Str) = B [] from B_nil]
      walk_at "go"
      exact q [] H Go.refl W (by simp; omega)
    · walk_at "go"
      refine ⟨w, g, _, rfl, W, by omega, by omega, fun d H1 s1 W1 d0 d1 => ?_⟩
      walk_at "go"
      refine ⟨w, g, _, rfl, W1, by omega, by omega, fun a H2 s2 W2 a0 a1 => ?_⟩
      walk_at "go"
      simp only [B_0, B_1]
      refine ifD (fun lt4 => ?_) (fun ge4 => ?_)
      · walk_at "go"
        refine ifD (fun lt2 => ?_) (fun ge2 => ?_)
        all_goals
          walk_at "go"
          intro p np
          generalize hU : upd H2 p _ = H3
          obtain ⟨s3, W3, ap⟩ := new_of W2 np hU
          have hp := ap.at_
          walk_at "go"
          intro p2 np2
          generalize hU2 : upd H3 p2 _ = H4
          obtain ⟨s4, W4, ap2⟩ := new_of W3 np2 hU2
          have S : Go w g H H4 := ((s1.trans s2).trans (Go.of s3)).trans (Go.of s4)
          refine ⟨_, _, rfl, Or.inr (sqT_of ap2.at_), rfl, rfl, ?_⟩
          walk_at "go"
          refine ifB (fun _ => ?_) (fun _ => ?_)
          · walk_at "go"
            exact q _ H4 S W4 (by rw [rep_length]; simp; omega)
          · walk_at "go"
            exact q _ H4 S W4 (by rw [List.length_append, List.length_append, rep_length, rep_length]; simp; omega)
      · walk_at "go"
        refine ifD (fun gt5 => ?_) (fun le5 => ?_)
        · walk_at "go"
          refine ⟨w, g, _, rfl, W2, by split <;> omega, by split <;> omega, fun l H3 s3 W3 hl => ?_⟩
          have S : Go w g H H3 := (s1.trans s2).trans s3
          have hl640 : l.length ≤ 640 := by split at hl <;> omega
          have hk : (n / 640 + 1).toNat ≤ 8 := by omega
          have hm : l.length * (n / 640 + 1).toNat ≤ 1000000 := mul_le hl640 hk (by decide)
          have hr : (rep (n / 640 + 1).toNat l).length ≤ 1000000 := by rw [rep_length, Nat.mul_comm]; exact hm
          walk_at "go"
          refine q _ H3 S W3 ?_
          rw [List.length_take, rep_length]
          have key : n.toNat ≤ (n / 640 + 1).toNat * l.length := by
            by_cases h6 : 640 < n
            · rw [if_pos h6] at hl
              rw [show l.length = 640 by omega]
              omega
            · rw [if_neg h6] at hl
              refine Nat.le_trans (show n.toNat ≤ 1 * l.length by omega) (Nat.mul_le_mul (by omega) (Nat.le_refl _))
          omega
        · walk_at "go"
          refine ⟨w, g, _, rfl, W2, by split <;> omega, by split <;> omega, fun e H3 s3 W3 e0 e1 => ?_⟩
          walk_at "go"
          have e6 : e < 6 := by split at e1 <;> omega
          refine ⟨w, g, _, rfl, W3, by omega, by omega, fun l H4 s4 W4 hl => ?_⟩
          have S : Go w g H H4 := ((s1.trans s2).trans s3).trans s4
          have hl6 : l.length ≤ 6 := by omega
          have hl1 : 1 ≤ l.length := by omega
          have hm : l.length * n.toNat ≤ 1000000 := mul_le hl6 (show n.toNat ≤ 5000 by omega) (by decide)
          have hr1 : (rep n.toNat l).length ≤ 1000000 := by rw [rep_length, Nat.mul_comm]; exact hm
          walk_at "go"
          have key : n.toNat ≤ n.toNat * l.length := Nat.le_mul_of_pos_right _ hl1
          have hr : (rep n.toNat l).length = n.toNat * l.length := rep_length _ _
          have hf : ((rep n.toNat l).take n.toNat).length = n.toNat := by
            rw [List.length_take, hr]
            omega
          generalize (rep n.toNat l).take n.toNat = f at hf
          walk_at "go"
          refine ifD (fun e5 => ?_) (fun n5 => ?_)
          · obtain ⟨x, hx⟩ : ∃ x, f[a.toNat]? = some x := ⟨_, List.getElem?_eq_getElem (by omega)⟩
            walk_at "go"
            refine go_ixS (k := a.toNat) (by omega) (by omega) hx ?_
            rw [B_one]
            walk_at "go"
            rw [B_dec]
            refine ifD (fun ex => ?_) (fun nx => ?_)
            all_goals
              walk_at "go"
              exact q _ H4 S W4 (by simp only [List.length_append, List.length_take, List.length_drop, List.length_cons, List.length_nil]; omega)
          · walk_at "go"
            exact q _ H4 S W4 (by omega)
end
section
variable {P : Program} {wd : World} {K : PySem.W.Frag} {mg : Str → Option Value} {base : Heap} (T : Tp K mg)
def spShort : Sp := fun vs H Q _ => ∃ (t : List Bool) (s : Nat), vs = [.str (B t)] ∧ 0 < t.length ∧ t.length ≤ 5000 ∧ IsPer t s ∧ Q (.str (B (t.take s))) H
theorem ok_short : FnOk P wd K mg base CX0 1 T.a_shortest T.d_shortest ["turn"] spShort := by
  refine T.F_shortest.ok sc_shortest (fun vs H Q E h => ?_) (fun cdv A outer s H vs Q E hr h => ?_)
  · obtain ⟨t, s, rfl, _⟩ := h
    rfl
  · obtain ⟨t, s0, rfl, t0, t1, per, q⟩ := h
    refine ⟨_, (pss_cons (ps_set (i := 1) sc_shortest.nd rfl (Or.inl rfl) (pe_callB call_len_str rfl T.n_len PySem.boot_len (pa_cons (pv 0) pa_nil)))
      (pss_cons (ps_for PassesOwn.never rfl (pi_range2 rfl T.n_range (pa_cons pe_int (pa_cons (pe_op op_add (pe_op op_fdiv (pv 1) pe_int) pe_int) pa_nil))) (pg_name (i := 2) sc_shortest.nd rfl (Or.inl rfl)) (pss_one (ps_if (PW.pt (pw_and (pt_cmpR op_eq (pe_op op_mod (pv 1) (pv 2)) pe_int (nomark _)) (pw_and1 (pt_cmpR op_eq (pe_op op_mulS (pe_slice sl_str (pv 0) po_none (po_some (pv 2))) (pe_op op_fdiv (pv 1) (pv 2))) (pv 0) (nomark _))))) (pss_one (ps_ret (pe_slice sl_str (pv 0) po_none (po_some (pv 2))))) pss_nil)))
      (pss_one (ps_ret (pv 0))))), ?_⟩
    have fact : ∀ k, 1 ≤ k → k ≤ t.length → t.length % k = 0 → rep (t.length / k) (t.take k) = t → s0 ≤ k := fun k k1 k2 k3 k4 => by
      refine Nat.le_of_not_lt fun c => per.least k k1 c ((rep_iff k1 k2 k3).mp k4)
    walk_at "go"
    refine for_range (lo := 1) (n := ((t.length : Int) / 2 + 1 - 1).toNat) (fun i σ H2 => ∃ y2, σ = [some (.str (B t)), some (.int t.length), y2] ∧ H2 = H ∧ ∀ k, 1 ≤ k → k < 1 + i → ¬ (t.length % k = 0 ∧ rep (t.length / k) (t.take k) = t))
      ⟨none, rfl, rfl, fun k a b => by omega⟩ (fun i σ H2 hi p => ?_) (fun σ H2 p => ?_)
    · obtain ⟨y2, rfl, rfl, no⟩ := p
      have i1 : 1 + i ≤ t.length := by omega
      have m1 : (t.take (1 + (i : Int)).toNat).length * ((t.length : Int) / (1 + (i : Int))).toNat ≤ 1000000 := by
        refine mul_le (n := 1 + i) (m := t.length / (1 + i)) (by rw [List.length_take]; omega) ?_ ?_
        · rw [show (1 + (i : Int)) = ((1 + i : Nat) : Int) by omega, ← Int.natCast_ediv, Int.toNat_natCast]
          exact Nat.le_refl _
        · exact Nat.le_trans (Nat.mul_div_le _ _) (by omega)
      walk_at "go"
      have e1 : (1 + (i : Int)).toNat = 1 + i := by omega
      have e2 : ((t.length : Int) / (1 + (i : Int))).toNat = t.length / (1 + i) := by
        rw [show (1 + (i : Int)) = ((1 + i : Nat) : Int) by omega, ← Int.natCast_ediv, Int.toNat_natCast]
      have e3 : (t.length : Int) % (1 + (i : Int)) = ((t.length % (1 + i) : Nat) : Int) := by
        rw [show (1 + (i : Int)) = ((1 + i : Nat) : Int) by omega, ← Int.natCast_emod]
      have e4 : 0 ≤ (t.length : Int) / (1 + (i : Int)) ∧ (t.length : Int) / (1 + (i : Int)) < 2 ^ 30 := by
        rw [show (1 + (i : Int)) = ((1 + i : Nat) : Int) by omega, ← Int.natCast_ediv]
        have := Nat.div_le_self t.length (1 + i)
        omega
      have next : ¬ (t.length % (1 + i) = 0 ∧ rep (t.length / (1 + i)) (t.take (1 + i)) = t) → ∀ k, 1 ≤ k → k < 1 + (i + 1) → ¬ (t.length % k = 0 ∧ rep (t.length / k) (t.take k) = t) := fun c k k1 k2 z => by
        by_cases ek : k = 1 + i
        · subst ek
          exact c z
        · exact no k k1 (by omega) z
      refine ifD (fun ed => ?_) (fun nd => ?_)
      · have ed2 : t.length % (1 + i) = 0 := by
          have ed1 : (t.length : Int) % (1 + (i : Int)) = 0 := V.int.inj ed
          rw [e3] at ed1
          omega
        walk_at "go"
        rw [B_dec, e1, e2]
        refine ifD (fun er => ?_) (fun nr => ?_)
        · walk_at "go"
          have es : s0 = 1 + i := by
            have h1 := fact (1 + i) (by omega) i1 ed2 er
            by_cases h2 : s0 < 1 + i
            · exact absurd ⟨per.dvd, (rep_iff per.pos per.le per.dvd).mpr per.rot⟩ (no s0 per.pos h2)
            · omega
          rw [e1, ← es]
          exact q
        · exact ⟨_, rfl, rfl, next fun z => nr z.2⟩
      · exact ⟨_, rfl, rfl, next fun z => nd (congrArg V.int (show (t.length : Int) % (1 + (i : Int)) = 0 by rw [e3, z.1]; rfl))⟩
    · obtain ⟨y2, rfl, rfl, no⟩ := p
      walk_at "go"
      have es : s0 = t.length := by
        have hle := per.le
        have hd := per.dvd
        have h1 : ¬ s0 < 1 + ((t.length : Int) / 2 + 1 - 1).toNat := fun c => no s0 per.pos c ⟨hd, (rep_iff per.pos hle hd).mpr per.rot⟩
        have h2 : t.length < 2 * s0 := by omega
        have h3 := Nat.mod_eq_sub_mod hle
        rw [Nat.mod_eq_of_lt (show t.length - s0 < s0 by omega)] at h3
        omega
      rw [es, List.take_length] at q
      exact q
end
theorem one_true (x : Bool) : decide ([x] = [true]) = x := by cases x <;> rfl
section
variable {P : Program} {wd : World} {K : PySem.W.Frag} {mg : Str → Option Value} {base : Heap} (T : Tp K mg)
def spAlike : Sp := fun vs H Q _ => ∃ (h u : List Bool), vs = [.str (B h), .str (B u)] ∧ h.length ≤ 5000 ∧ 0 < u.length ∧ u.length ≤ 5000 ∧ ∀ a : Nat, Alike h u a → Q (.int a) H
theorem ok_alike : FnOk P wd K mg base CX0 1 T.a_alike T.d_alike ["head", "turn"] spAlike := by
  refine T.F_alike.ok sc_alike (fun vs H Q E h => ?_) (fun cdv A outer s H vs Q E hr h => ?_)
  · obtain ⟨h, u, rfl, _⟩ := h
    rfl
  · obtain ⟨h, u, rfl, h1, u0, u1, q⟩ := h
    refine ⟨_, (pss_cons (ps_set (i := 2) sc_alike.nd rfl (Or.inl rfl) pe_int)
      (pss_cons (ps_while PassesOwn.never (PW.pt (pw_and (pt_cmpR op_lt (pv 2) (pe_callB call_len_str rfl T.n_len PySem.boot_len (pa_cons (pv 0) pa_nil)) (nomark _)) (pw_and1 (pt_cmpR op_eq (pe_ix ix_str (pv 0) (pe_op op_sub (pe_un un_neg pe_int) (pv 2)) (fun _ _ => rfl)) (pe_ix ix_str (pv 1) (pe_op op_sub (pe_un un_neg pe_int) (pe_op op_mod (pv 2) (pe_callB call_len_str rfl T.n_len PySem.boot_len (pa_cons (pv 1) pa_nil)))) (fun _ _ => rfl)) (nomark _))))) (pss_one (ps_aug (i := 2) sc_alike.nd rfl (Or.inl rfl) pe_int ip_add)))
      (pss_one (ps_ret (pv 2))))), ?_⟩
    walk_at "go"
    refine ⟨fun m σ H2 => ∃ a : Nat, σ = [some (.str (B h)), some (.str (B u)), some (.int a)] ∧ H2 = H ∧ a ≤ h.length ∧ m = h.length - a ∧ ∀ j, j < a → h.getD (h.length - 1 - j) false = u.getD (u.length - 1 - j % u.length) false,
      ⟨h.length, 0, rfl, rfl, Nat.zero_le _, rfl, fun j hj => by omega⟩, fun m σ H2 p => ?_⟩
    obtain ⟨a, rfl, rfl, ha, rfl, sm⟩ := p
    walk_at "go"
    refine ifD (fun lt => ?_) (fun nlt => ?_)
    · have lt2 : a < h.length := by omega
      have hm := Nat.mod_lt a u0
      walk_at "go"
      refine go_ixSn (k := a) rfl (by omega) lt2 (getD_some (by omega)) ?_
      rw [B_one]
      walk_at "go"
      refine go_ixSn (k := a % u.length) (by simp) (by omega) hm (getD_some (by omega)) ?_
      rw [B_one]
      walk_at "go"
      rw [B_dec]
      refine ifD (fun eq => ?_) (fun ne => ?_)
      · refine ⟨fun σ' H' => σ' = [some (.str (B h)), some (.str (B u)), some (.int ((a + 1 : Nat) : Int))] ∧ H' = H2, fun σ' H' p => ?_, ?_⟩
        · obtain ⟨rfl, rfl⟩ := p
          refine ⟨h.length - (a + 1), by omega, a + 1, rfl, rfl, by omega, rfl, fun j hj => ?_⟩
          by_cases e : j = a
          · subst e
            exact (List.cons.inj eq).1
          · exact sm j (by omega)
        · walk_at "go"
          exact rfl
      · walk_at "go"
        exact q a ⟨ha, sm, .inr fun z => ne (by rw [z])⟩
    · walk_at "go"
      exact q a ⟨ha, sm, .inl (by omega)⟩

/-- the table of a head and a turn -/
def Tab (H : Hp) (p : Addr) (h t : List Bool) : Prop := H p = some (.tup [.str (B h), .str (B t)]) ∧ h.length ≤ 5000 ∧ 0 < t.length ∧ t.length ≤ 5000
theorem Tab.same {H H' : Hp} {p : Addr} {h t : List Bool} (x : Tab H p h t) (s : Same H H') : Tab H' p h t := ⟨s _ _ x.1, x.2⟩
def spLeast : Sp := fun vs H Q _ => ∃ (p : Addr) (h t : List Bool) (s m : Nat), vs = [.ref p] ∧ Tab H p h t ∧ IsPer t s ∧ IsBeg h t s m ∧
  ∀ p' H', Same H H' → Tab H' p' (rng (sg h t) 0 m) (rng (sg h t) m s) → Q (.ref p') H'
theorem ok_least : FnOk P wd K mg base CX0 2 T.a_least T.d_least ["table"] spLeast := by
  have G_shortest : FnOk P wd K mg base CX0 1 T.a_shortest T.d_shortest ["turn"] spShort := ok_short T
  have G_alike : FnOk P wd K mg base CX0 1 T.a_alike T.d_alike ["head", "turn"] spAlike := ok_alike T
  refine T.F_least.ok sc_least (fun vs H Q E h => ?_) (fun cdv A outer s H vs Q E hr h => ?_)
  · obtain ⟨p, h, t, s, m, rfl, _⟩ := h
    rfl
  · obtain ⟨p, h, t, s, m, rfl, ⟨hp, h1, t0, t1⟩, per, beg, q⟩ := h
    refine ⟨_, (pss_cons (ps_asg (pv 0) (pg_tup rfl (pgs_cons (pg_name (i := 1) sc_least.nd rfl (Or.inl rfl)) (pgs_cons (pg_name (i := 2) sc_least.nd rfl (Or.inl rfl)) pgs_nil))))
      (pss_cons (ps_set (i := 2) sc_least.nd rfl (Or.inl rfl) (pe_call G_shortest hr rfl T.g_shortest T.F_shortest.kp (b_shortest T) .nil pass0 (pa_cons (pv 2) pa_nil)))
      (pss_cons (ps_set (i := 3) sc_least.nd rfl (Or.inl rfl) (pe_call G_alike hr rfl T.g_alike T.F_alike.kp (b_alike T) .nil pass0 (pa_cons (pv 1) (pa_cons (pv 2) pa_nil))))
      (pss_cons (ps_set (i := 4) sc_least.nd rfl (Or.inl rfl) (pe_op op_sub (pe_callB call_len_str rfl T.n_len PySem.boot_len (pa_cons (pv 2) pa_nil)) (pe_op op_mod (pv 3) (pe_callB call_len_str rfl T.n_len PySem.boot_len (pa_cons (pv 2) pa_nil)))))
      (pss_one (ps_ret (pe_tup (pa_cons (pe_slice sl_str (pv 1) po_none (po_some (pe_op op_sub (pe_callB call_len_str rfl T.n_len PySem.boot_len (pa_cons (pv 1) pa_nil)) (pv 3)))) (pa_cons (pe_op op_add_str (pe_slice sl_str (pv 2) (po_some (pv 4)) po_none) (pe_slice sl_str (pv 2) po_none (po_some (pv 4)))) pa_nil))))))))), ?_⟩
    have hu := take_len per
    have spos := per.pos
    have sle := per.le
    walk_at "go"
    refine ⟨t, s, rfl, t0, t1, per, ?_⟩
    walk_at "go"
    intro a x
    have ha := x.le
    have hm := Nat.mod_lt a spos
    have em : ((a : Int) % ((s : Nat) : Int)) = ((a % s : Nat) : Int) := (Int.natCast_emod _ _).symm
    rw [← hu] at em
    have hm2 : a % (t.take s).length < (t.take s).length := by rw [hu]; exact hm
    have c0 : 0 ≤ ((t.take s).length : Int) - (a : Int) % ((t.take s).length : Int) := by
      rw [em]
      omega
    have ec : (((t.take s).length : Int) - (a : Int) % ((t.take s).length : Int)).toNat = s - a % s := by
      rw [em, hu]
      omega
    have eh : ((h.length : Int) - (a : Int)).toNat = h.length - a := by omega
    walk_at "go"
    rw [ec, eh]
    intro p' np
    have eb : m = h.length - a := beg.uniq (beg_of per x)
    refine q p' _ (same_new np) ⟨?_, ?_, ?_, ?_⟩
    · rw [upd_same, win_of per x, head_of ha, eb]
    · rw [rng_len]; omega
    · rw [rng_len]; omega
    · rw [rng_len]; omega

def spHas : Sp := fun vs H Q _ => ∃ (p : Addr) (h t : List Bool) (n : Int), vs = [.ref p, .int n] ∧ Tab H p h t ∧ 0 ≤ n ∧ Q (.bl (sg h t n.toNat)) H
theorem ok_has : FnOk P wd K mg base CX0 1 T.a_has T.d_has ["table", "number"] spHas := by
  refine T.F_has.ok sc_has (fun vs H Q E h => ?_) (fun cdv A outer s H vs Q E hr h => ?_)
  · obtain ⟨p, h, t, n, rfl, _⟩ := h
    rfl
  · obtain ⟨p, h, t, n, rfl, ⟨hp, h1, t0, t1⟩, n0, q⟩ := h
    refine ⟨_, (pss_cons (ps_asg (pv 0) (pg_tup rfl (pgs_cons (pg_name (i := 2) sc_has.nd rfl (Or.inl rfl)) (pgs_cons (pg_name (i := 3) sc_has.nd rfl (Or.inl rfl)) pgs_nil))))
      (pss_cons (ps_if (pt_cmpR op_lt (pv 1) (pe_callB call_len_str rfl T.n_len PySem.boot_len (pa_cons (pv 2) pa_nil)) (nomark _)) (pss_one (ps_ret (pe_cmpR op_eq (pe_ix ix_str (pv 2) (pv 1) (fun _ _ => rfl)) pe_str (nomark _)))) pss_nil)
      (pss_one (ps_ret (pe_cmpR op_eq (pe_ix ix_str (pv 3) (pe_op op_mod (pe_op op_sub (pv 1) (pe_callB call_len_str rfl T.n_len PySem.boot_len (pa_cons (pv 2) pa_nil))) (pe_callB call_len_str rfl T.n_len PySem.boot_len (pa_cons (pv 3) pa_nil))) (fun _ _ => rfl)) pe_str (nomark _)))))), ?_⟩
    simp only [B_1]
    walk_at "go"
    refine ifD (fun lt => ?_) (fun nlt => ?_)
    · walk_at "go"
      refine go_ixS (k := n.toNat) (by omega) (by omega) (getD_some (by omega)) ?_
      rw [B_one]
      walk_at "go"
      rw [B_dec, one_true]
      rw [sg_head (by omega)] at q
      exact q
    · have hm := Nat.mod_lt (n.toNat - h.length) t0
      have em : (n - (h.length : Int)) % (t.length : Int) = (((n.toNat - h.length) % t.length : Nat) : Int) := by
        rw [Int.natCast_emod]
        congr 1
        omega
      walk_at "go"
      refine go_ixS (k := (n.toNat - h.length) % t.length) em (by omega) (getD_some hm) ?_
      rw [B_one]
      walk_at "go"
      rw [B_dec, one_true]
      rw [sg_turn (by omega)] at q
      exact q
def spSigns : Sp := fun vs H Q _ => ∃ (p : Addr) (h t : List Bool) (n : Int), vs = [.ref p, .int n] ∧ Tab H p h t ∧ 0 ≤ n ∧ n ≤ 30000 ∧ Q (.str (B (rng (sg h t) 0 n.toNat))) H
theorem times_ok {n : Int} {t : List Bool} (n0 : 0 ≤ n) (n1 : n ≤ 30000) (t0 : 0 < t.length) (t1 : t.length ≤ 5000) :
    (n / (t.length : Int) + 1).toNat = n.toNat / t.length + 1 ∧ t.length * (n.toNat / t.length + 1) ≤ 35000 ∧ n.toNat ≤ (n.toNat / t.length + 1) * t.length ∧ 0 ≤ n / (t.length : Int) + 1 ∧ n / (t.length : Int) + 1 < 2 ^ 30 := by
  have e : n = ((n.toNat : Nat) : Int) := by omega
  generalize n.toNat = k at e
  subst e
  rw [← Int.natCast_ediv]
  have h1 := Nat.mod_add_div k t.length
  have h2 := Nat.mod_lt k t0
  have h3 : t.length * (k / t.length + 1) = t.length * (k / t.length) + t.length := Nat.mul_succ _ _
  have h4 : (k / t.length + 1) * t.length = t.length * (k / t.length) + t.length := by rw [Nat.mul_comm, h3]
  have h5 := Nat.div_le_self k t.length
  generalize k / t.length = z at *
  generalize k % t.length = y at *
  refine ⟨by omega, by omega, by omega, by omega, by omega⟩
theorem ok_signs : FnOk P wd K mg base CX0 1 T.a_signs T.d_signs ["table", "many"] spSigns := by
  refine T.F_signs.ok sc_signs (fun vs H Q E h => ?_) (fun cdv A outer s H vs Q E hr h => ?_)
  · obtain ⟨p, h, t, n, rfl, _⟩ := h
    rfl
  · obtain ⟨p, h, t, n, rfl, ⟨hp, h1, t0, t1⟩, n0, n1, q⟩ := h
    refine ⟨_, (pss_cons (ps_asg (pv 0) (pg_tup rfl (pgs_cons (pg_name (i := 2) sc_signs.nd rfl (Or.inl rfl)) (pgs_cons (pg_name (i := 3) sc_signs.nd rfl (Or.inl rfl)) pgs_nil))))
      (pss_cons (ps_set (i := 4) sc_signs.nd rfl (Or.inl rfl) (pe_op op_add (pe_op op_fdiv (pv 1) (pe_callB call_len_str rfl T.n_len PySem.boot_len (pa_cons (pv 3) pa_nil))) pe_int))
      (pss_one (ps_ret (pe_slice sl_str (pe_op op_add_str (pv 2) (pe_op op_mulS (pv 3) (pv 4))) po_none (po_some (pv 1))))))), ?_⟩
    obtain ⟨e1, e2, e3, e4, e5⟩ := times_ok n0 n1 t0 t1
    have m1 : t.length * (n / (t.length : Int) + 1).toNat ≤ 1000000 := by rw [e1]; omega
    have l1 : h.length + (rep (n / (t.length : Int) + 1).toNat t).length ≤ 1000000 := by
      rw [rep_length, e1, Nat.mul_comm]
      omega
    have l2 : (h ++ rep (n / (t.length : Int) + 1).toNat t).length ≤ 1000000 := by
      rw [List.length_append]
      exact l1
    walk_at "go"
    rw [e1, row_take t0 (by omega)]
    exact q

theorem ok_row : FnOk P wd K mg base CX0 1 T.a_row T.d_row ["_law_x", "_law_size"] spSigns := by
  refine T.F_row.ok sc_row (fun vs H Q E h => ?_) (fun cdv A outer s H vs Q E hr h => ?_)
  · obtain ⟨p, h, t, n, rfl, _⟩ := h
    rfl
  · obtain ⟨p, h, t, n, rfl, ⟨hp, h1, t0, t1⟩, n0, n1, q⟩ := h
    refine ⟨_, (pss_one (ps_ret (pe_slice sl_str (pe_op op_add_str (pe_ix ix_tup (pv 0) pe_int (fun _ _ => rfl)) (pe_op op_mulS (pe_ix ix_tup (pv 0) pe_int (fun _ _ => rfl)) (pe_op op_add (pe_op op_fdiv (pv 1) (pe_callB call_len_str rfl T.n_len PySem.boot_len (pa_cons (pe_ix ix_tup (pv 0) pe_int (fun _ _ => rfl)) pa_nil))) pe_int))) po_none (po_some (pv 1))))), ?_⟩
    obtain ⟨e1, e2, e3, e4, e5⟩ := times_ok n0 n1 t0 t1
    have m1 : t.length * (n / (t.length : Int) + 1).toNat ≤ 1000000 := by rw [e1]; omega
    have l1 : h.length + (rep (n / (t.length : Int) + 1).toNat t).length ≤ 1000000 := by
      rw [rep_length, e1, Nat.mul_comm]
      omega
    have l2 : (h ++ rep (n / (t.length : Int) + 1).toNat t).length ≤ 1000000 := by
      rw [List.length_append]
      exact l1
    walk_at "go"
    rw [e1, row_take t0 (by omega)]
    exact q
theorem ok_sign : FnOk P wd K mg base CX0 1 T.a_sign T.d_sign ["_law_x", "_law_n"] spHas := by
  refine T.F_sign.ok sc_sign (fun vs H Q E h => ?_) (fun cdv A outer s H vs Q E hr h => ?_)
  · obtain ⟨p, h, t, n, rfl, _⟩ := h
    rfl
  · obtain ⟨p, h, t, n, rfl, ⟨hp, h1, t0, t1⟩, n0, q⟩ := h
    refine ⟨_, (pss_cons (ps_if (pt_cmpR op_lt (pv 1) (pe_callB call_len_str rfl T.n_len PySem.boot_len (pa_cons (pe_ix ix_tup (pv 0) pe_int (fun _ _ => rfl)) pa_nil)) (nomark _)) (pss_one (ps_ret (pe_cmpR op_eq (pe_ix ix_str (pe_ix ix_tup (pv 0) pe_int (fun _ _ => rfl)) (pv 1) (fun _ _ => rfl)) pe_str (nomark _)))) pss_nil)
      (pss_one (ps_ret (pe_cmpR op_eq (pe_ix ix_str (pe_ix ix_tup (pv 0) pe_int (fun _ _ => rfl)) (pe_op op_mod (pe_callTy call_int1 rfl T.n_int (by decide +kernel) (pa_cons (pe_op op_sub (pv 1) (pe_callB call_len_str rfl T.n_len PySem.boot_len (pa_cons (pe_ix ix_tup (pv 0) pe_int (fun _ _ => rfl)) pa_nil))) pa_nil)) (pe_callB call_len_str rfl T.n_len PySem.boot_len (pa_cons (pe_ix ix_tup (pv 0) pe_int (fun _ _ => rfl)) pa_nil))) (fun _ _ => rfl)) pe_str (nomark _))))), ?_⟩
    simp only [B_1]
    walk_at "go"
    refine ifD (fun lt => ?_) (fun nlt => ?_)
    · walk_at "go"
      refine go_ixS (k := n.toNat) (by omega) (by omega) (getD_some (by omega)) ?_
      rw [B_one]
      walk_at "go"
      rw [B_dec, one_true]
      rw [sg_head (by omega)] at q
      exact q
    · have hm := Nat.mod_lt (n.toNat - h.length) t0
      have em : (n - (h.length : Int)) % (t.length : Int) = (((n.toNat - h.length) % t.length : Nat) : Int) := by
        rw [Int.natCast_emod]
        congr 1
        omega
      walk_at "go"
      refine go_ixS (k := (n.toNat - h.length) % t.length) em (by omega) (getD_some hm) ?_
      rw [B_one]
      walk_at "go"
      rw [B_dec, one_true]
      rw [sg_turn (by omega)] at q
      exact q
end
section
variable {P : Program} {wd : World} {K : PySem.W.Frag} {mg : Str → Option Value} {base : Heap} (T : Tp K mg)
theorem ok_lleast : FnOk P wd K mg base CX0 1 T.a_lleast T.d_lleast ["_law_x"] spLeast := by
  refine T.F_lleast.ok sc_lleast (fun vs H Q E h => ?_) (fun cdv A outer s H vs Q E hr h => ?_)
  · obtain ⟨p, h, t, s, m, rfl, _⟩ := h
    rfl
  · obtain ⟨p, h, t, s, m, rfl, ⟨hp, h1, t0, t1⟩, per, beg, q⟩ := h
    refine ⟨_, (pss_cons (ps_set (i := 1) sc_lleast.nd rfl (Or.inl rfl) (pe_bm PySem.F.plainAttrs_str PySem.F.slot_str_find PySem.F.type_str_find mt_find3 (pe_op op_add_str (pe_ix ix_tup (pv 0) pe_int (fun _ _ => rfl)) (pe_ix ix_tup (pv 0) pe_int (fun _ _ => rfl))) (pa_cons (pe_ix ix_tup (pv 0) pe_int (fun _ _ => rfl)) (pa_cons pe_int pa_nil))))
      (pss_cons (ps_par3 (i := 2) (j := 3) (l := 4) rfl sc_lleast.nd rfl rfl rfl (by decide) (by decide) (by decide) rfl rfl rfl (pa_cons (pe_op op_add_str (pe_op op_add_str (pe_ix ix_tup (pv 0) pe_int (fun _ _ => rfl)) (pe_ix ix_tup (pv 0) pe_int (fun _ _ => rfl))) (pe_ix ix_tup (pv 0) pe_int (fun _ _ => rfl))) (pa_cons pe_int (pa_cons (pe_callB call_len_str rfl T.n_len PySem.boot_len (pa_cons (pe_ix ix_tup (pv 0) pe_int (fun _ _ => rfl)) pa_nil)) pa_nil))) rfl)
      (pss_cons (ps_for PassesOwn.never rfl (pi_range1 rfl T.n_range (pa_cons pe_int pa_nil)) (pg_name (i := 5) sc_lleast.nd rfl (Or.inl rfl)) (pss_cons (ps_set (i := 6) sc_lleast.nd rfl (Or.inl rfl) (pe_op op_fdiv (pe_op op_add (pv 3) (pv 4)) pe_int))
      (pss_one (ps_if (pt_cmpR op_eq (pe_slice sl_str (pv 2) (po_some (pv 6)) (po_some (pe_callB call_len_str rfl T.n_len PySem.boot_len (pa_cons (pe_ix ix_tup (pv 0) pe_int (fun _ _ => rfl)) pa_nil)))) (pe_slice sl_str (pv 2) (po_some (pe_op op_add (pv 6) (pv 1))) (po_some (pe_op op_add (pe_callB call_len_str rfl T.n_len PySem.boot_len (pa_cons (pe_ix ix_tup (pv 0) pe_int (fun _ _ => rfl)) pa_nil)) (pv 1)))) (nomark _)) (pss_one (ps_set (i := 4) sc_lleast.nd rfl (Or.inl rfl) (pv 6))) (pss_one (ps_set (i := 3) sc_lleast.nd rfl (Or.inl rfl) (pe_op op_add (pv 6) pe_int)))))))
      (pss_one (ps_ret (pe_tup (pa_cons (pe_slice sl_str (pv 2) po_none (po_some (pv 4))) (pa_cons (pe_slice sl_str (pv 2) (po_some (pv 4)) (po_some (pe_op op_add (pv 4) (pv 1)))) pa_nil)))))))), ?_⟩
    have spos := per.pos
    have sle := per.le
    walk_at "go"
    rw [find_per per]
    walk_at "go"
    refine for_range (lo := 0) (n := 14) (fun i σ H2 => ∃ (lo hi : Nat) (y5 y6 : Option V), σ = [some (.ref p), some (.int s), some (.str (B (h ++ t ++ t))), some (.int lo), some (.int hi), y5, y6] ∧ H2 = H ∧ Half h t s lo hi ∧ (hi - lo) * 2 ^ i ≤ h.length)
      ⟨0, h.length, none, none, rfl, rfl, ⟨Nat.zero_le _, Nat.le_refl _, fun n a b => by omega, fun m hm => by omega⟩, by simp⟩ (fun i σ H2 hi14 px => ?_) (fun σ H2 px => ?_)
    · obtain ⟨lo, hi, y5, y6, rfl, rfl, x, hx⟩ := px
      have xle := x.le
      have xtop := x.top
      obtain ⟨M, eM⟩ : ∃ M, M = (lo + hi) / 2 := ⟨_, rfl⟩
      have cM : ((lo : Int) + (hi : Int)) / 2 = (M : Int) := by omega
      have k1 : (((lo : Int) + (hi : Int)) / 2).toNat = M := by omega
      have k2 : (((lo : Int) + (hi : Int)) / 2 + (s : Int)).toNat = M + s := by omega
      have k3 : ((h.length : Int) + (s : Int)).toNat = h.length + s := by omega
      have k4 : ((h.length : Int)).toNat = h.length := by omega
      have two : ∀ d, 2 * d ≤ hi - lo → d * 2 ^ (i + 1) ≤ h.length := fun d hd => by
        have h3 : d * 2 ^ (i + 1) = (2 * d) * 2 ^ i := by rw [Nat.pow_succ, Nat.mul_comm 2 d, Nat.mul_assoc, Nat.mul_comm (2 ^ i) 2]
        rw [h3]
        exact Nat.le_trans (Nat.mul_le_mul_right _ hd) hx
      walk_at "go"
      rw [B_dec, k1, k2, k3, k4]
      refine ifD (fun e => ?_) (fun ne => ?_)
      · have sm := (half_iff (h := h) (t := t) (s := s) (m := M) sle (by omega)).mp e
        walk_at "go"
        rw [cM]
        exact ⟨lo, M, _, _, rfl, rfl, ⟨by omega, by omega, sm, x.low⟩, two _ (by omega)⟩
      · have ns := fun z => ne ((half_iff (h := h) (t := t) (s := s) (m := M) sle (by omega)).mpr z)
        have hlt : M < hi := by
          by_cases c : M < hi
          · exact c
          · exact absurd (fun n a b => x.same n (by omega) b) ns
        walk_at "go"
        rw [cM]
        refine ⟨M + 1, hi, _, _, rfl, rfl, ⟨by omega, by omega, x.same, fun m hm => ?_⟩, two _ (by omega)⟩
        refine Classical.byContradiction fun c => ns fun n a b => Classical.byContradiction fun d => c ⟨n, by omega, b, d⟩
    · obtain ⟨lo, hi, y5, y6, rfl, rfl, x, hx⟩ := px
      have xle := x.le
      have xtop := x.top
      have eq : lo = hi := by
        by_cases c : lo = hi
        · exact c
        · have : 1 * 2 ^ 14 ≤ (hi - lo) * 2 ^ 14 := Nat.mul_le_mul_right _ (by omega)
          omega
      have em : m = hi := beg.uniq (x.beg eq)
      have k3 : ((hi : Int) + (s : Int)).toNat = hi + s := by omega
      have k4 : ((hi : Int)).toNat = hi := by omega
      walk_at "go"
      rw [k3, k4]
      intro p' np
      refine q p' _ (same_new np) ⟨?_, ?_, ?_, ?_⟩
      · rw [upd_same, rng_take (by omega), rng_mid (by omega), em]
      · rw [rng_len]; omega
      · rw [rng_len]; omega
      · rw [rng_len]; omega

/-- a table, made of words -/
def GoTab (w g : Addr) (H : Hp) (Q : VK) (hm tm : Int) : Prop := ∀ p H' (h t : List Bool), Go w g H H' → WellAt w g H' → Tab H' p h t → (h.length : Int) ≤ hm → (t.length : Int) ≤ tm → Q (.ref p) H'
def spTable : Sp := fun vs H Q _ => ∃ (w g : Addr) (a b : Int), vs = [.ref w, .int a, .int b] ∧ WellAt w g H ∧ 0 ≤ a ∧ a ≤ 4000 ∧ 1 ≤ b ∧ b ≤ 4000 ∧ GoTab w g H Q a b
theorem ok_table : FnOk P wd K mg base CX0 4 T.a_table T.d_table ["_law_well_here", "_law_tall", "_law_wide"] spTable := by
  have G_draw : FnOk P wd K mg base CX0 1 T.a_draw T.d_draw ["_law_well_here", "_law_size"] spDraw := ok_draw T
  have G_word : FnOk P wd K mg base CX0 3 T.a_word T.d_word ["_law_well_here", "_law_size"] spBits := ok_word T
  refine T.F_table.ok sc_table (fun vs H Q E h => ?_) (fun cdv A outer s H vs Q E hr h => ?_)
  · obtain ⟨w, g, a, b, rfl, _⟩ := h
    rfl
  · obtain ⟨w, g, a, b, rfl, W, a0, a1, b0, b1, q⟩ := h
    refine ⟨_, (pss_one (ps_ret (pe_tup (pa_cons (pe_call G_word hr rfl T.g_word T.F_word.kp (b_word T) .nil pass0 (pa_cons (pv 0) (pa_cons (pe_call G_draw (hr.mono (by decide)) rfl T.g_draw T.F_draw.kp (b_draw T) .nil pass0 (pa_cons (pv 0) (pa_cons (pe_op op_add (pv 1) pe_int) pa_nil))) pa_nil))) (pa_cons (pe_call G_word hr rfl T.g_word T.F_word.kp (b_word T) .nil pass0 (pa_cons (pv 0) (pa_cons (pe_op op_add pe_int (pe_call G_draw (hr.mono (by decide)) rfl T.g_draw T.F_draw.kp (b_draw T) .nil pass0 (pa_cons (pv 0) (pa_cons (pv 2) pa_nil)))) pa_nil))) pa_nil))))), ?_⟩
    walk_at "go"
    refine ⟨w, g, _, rfl, W, by omega, by omega, fun d H1 s1 W1 d0 d1 => ?_⟩
    walk_at "go"
    refine ⟨w, g, _, rfl, W1, by omega, by omega, fun l H2 s2 W2 hl => ?_⟩
    walk_at "go"
    refine ⟨w, g, _, rfl, W2, by omega, by omega, fun e H3 s3 W3 e0 e1 => ?_⟩
    walk_at "go"
    refine ⟨w, g, _, rfl, W3, by omega, by omega, fun m H4 s4 W4 hm => ?_⟩
    walk_at "go"
    intro p np
    generalize hU : upd H4 p _ = H5
    obtain ⟨s5, W5, ap⟩ := new_of W4 np hU
    exact q p H5 l m ((((s1.trans s2).trans s3).trans s4).trans (Go.of s5)) W5 ⟨ap.at_, by omega, by omega, by omega⟩ (by omega) (by omega)
theorem mem_ints {x : V} {ns : List Int} {xs : List V} (e : xs = ns.map V.int) (h : x ∈ xs) : ∃ i ∈ ns, x = .int i := by
  subst e
  obtain ⟨i, h1, h2⟩ := List.mem_map.mp h
  exact ⟨i, h1, h2.symm⟩
def spGreat : Sp := fun vs H Q _ => ∃ (w g : Addr), vs = [.ref w] ∧ WellAt w g H ∧ GoTab w g H Q 5000 5000
theorem ok_great : FnOk P wd K mg base CX0 4 T.a_great T.d_great ["_law_well_here"] spGreat := by
  have G_draw : FnOk P wd K mg base CX0 1 T.a_draw T.d_draw ["_law_well_here", "_law_size"] spDraw := ok_draw T
  have G_pick : FnOk P wd K mg base CX0 2 T.a_pick T.d_pick ["_law_well_here", "_law_items"] spPick := ok_pick T
  have G_word : FnOk P wd K mg base CX0 3 T.a_word T.d_word ["_law_well_here", "_law_size"] spBits := ok_word T
  refine T.F_great.ok sc_great (fun vs H Q E h => ?_) (fun cdv A outer s H vs Q E hr h => ?_)
  · obtain ⟨w, g, rfl, _⟩ := h
    rfl
  · obtain ⟨w, g, rfl, W, q⟩ := h
    refine ⟨_, (pss_cons (ps_set (i := 1) sc_great.nd rfl (Or.inl rfl) (pe_call G_word hr rfl T.g_word T.F_word.kp (b_word T) .nil pass0 (pa_cons (pv 0) (pa_cons (pe_call G_pick (hr.mono (by decide)) rfl T.g_pick T.F_pick.kp (b_pick T) .nil pass0 (pa_cons (pv 0) (pa_cons (pe_lst (pa_cons pe_int (pa_cons pe_int (pa_cons pe_int (pa_cons pe_int (pa_cons pe_int (pa_cons (pe_call G_draw (hr.mono (by decide)) rfl T.g_draw T.F_draw.kp (b_draw T) .nil pass0 (pa_cons (pv 0) (pa_cons pe_int pa_nil))) pa_nil))))))) pa_nil))) pa_nil))))
      (pss_one (ps_ret (pe_tup (pa_cons (pv 1) (pa_cons (pe_call G_word hr rfl T.g_word T.F_word.kp (b_word T) .nil pass0 (pa_cons (pv 0) (pa_cons (pe_call G_pick (hr.mono (by decide)) rfl T.g_pick T.F_pick.kp (b_pick T) .nil pass0 (pa_cons (pv 0) (pa_cons (pe_lst (pa_cons pe_int (pa_cons pe_int (pa_cons pe_int (pa_cons pe_int (pa_cons pe_int (pa_cons (pe_op op_add pe_int (pe_call G_draw (hr.mono (by decide)) rfl T.g_draw T.F_draw.kp (b_draw T) .nil pass0 (pa_cons (pv 0) (pa_cons pe_int pa_nil)))) pa_nil))))))) pa_nil))) pa_nil))) pa_nil)))))), ?_⟩
    walk_at "go"
    refine ⟨w, g, _, rfl, W, by omega, by omega, fun d H1 s1 W1 d0 d1 => ?_⟩
    walk_at "go"
    intro p1 np1
    generalize hU1 : upd H1 p1 _ = H2
    obtain ⟨s2, W2, ap1⟩ := new_of W1 np1 hU1
    refine ⟨w, g, p1, _, rfl, W2, ap1, by simp, by simp, fun x H3 mx s3 W3 => ?_⟩
    obtain ⟨i, mi, rfl⟩ := mem_ints (ns := [0, 1, 37, 4999, 5000, d]) rfl mx
    have i01 : 0 ≤ i ∧ i ≤ 5000 := by
      simp at mi
      omega
    refine ⟨w, g, _, rfl, W3, i01.1, i01.2, fun l H4 s4 W4 hl => ?_⟩
    walk_at "go"
    refine ⟨w, g, _, rfl, W4, by omega, by omega, fun e H5 s5 W5 e0 e1 => ?_⟩
    walk_at "go"
    intro p2 np2
    generalize hU2 : upd H5 p2 _ = H6
    obtain ⟨s6, W6, ap2⟩ := new_of W5 np2 hU2
    refine ⟨w, g, p2, _, rfl, W6, ap2, by simp, by simp, fun x H7 mx s7 W7 => ?_⟩
    obtain ⟨j, mj, rfl⟩ := mem_ints (ns := [1, 2, 37, 4999, 5000, 1 + e]) rfl mx
    have j01 : 1 ≤ j ∧ j ≤ 5000 := by
      simp at mj
      omega
    refine ⟨w, g, _, rfl, W7, by omega, j01.2, fun m H8 s8 W8 hm => ?_⟩
    walk_at "go"
    intro p np
    generalize hU : upd H8 p _ = H9
    obtain ⟨s9, W9, ap⟩ := new_of W8 np hU
    refine q p H9 l m ?_ W9 ⟨ap.at_, by omega, by omega, by omega⟩ (by omega) (by omega)
    exact ((((((((s1.trans (Go.of s2)).trans s3).trans s4).trans s5).trans (Go.of s6)).trans s7).trans s8).trans (Go.of s9))
end
section
variable {P : Program} {wd : World} {K : PySem.W.Frag} {mg : Str → Option Value} {base : Heap} (T : Tp K mg)
theorem kb_signs_many_table : KBinds K T.d_signs ["table", "many"] ["many", "table"] swapW swapW := by
  obtain ⟨oc, od, kV, doc, pm, an, cdv, ct, osl, e, lk, hcd⟩ := T.F_signs.ex
  rw [e]
  exact kbinds_swap fun a b => rfl
theorem kb_has_number_table : KBinds K T.d_has ["table", "number"] ["number", "table"] swapW swapW := by
  obtain ⟨oc, od, kV, doc, pm, an, cdv, ct, osl, e, lk, hcd⟩ := T.F_has.ex
  rw [e]
  exact kbinds_swap fun a b => rfl
def spLaw (K : PySem.W.Frag) : Sp := fun vs H Q _ => ∃ (a : Addr) (ns : List Int), vs = [.ref a] ∧ SqL K H a (ns.map V.int) ∧ ns.length ≤ 63 ∧ ∀ H', Q (.bl true) H'
theorem ok_law : FnG P wd K mg base 5 T.a_law T.d_law ["_law_script"] (spLaw K) := by
  have G_well : FnOk P wd K mg base CX0 1 T.a_well T.d_well ["_law_script"] (spWell K) := ok_well T
  have G_draw : FnOk P wd K mg base CX0 1 T.a_draw T.d_draw ["_law_well_here", "_law_size"] spDraw := ok_draw T
  have G_pick : FnOk P wd K mg base CX0 2 T.a_pick T.d_pick ["_law_well_here", "_law_items"] spPick := ok_pick T
  have G_far : FnOk P wd K mg base CX0 2 T.a_far T.d_far ["_law_well_here"] spFar := ok_far T
  have G_table : FnOk P wd K mg base CX0 4 T.a_table T.d_table ["_law_well_here", "_law_tall", "_law_wide"] spTable := ok_table T
  have G_great : FnOk P wd K mg base CX0 4 T.a_great T.d_great ["_law_well_here"] spGreat := ok_great T
  have G_lleast : FnOk P wd K mg base CX0 1 T.a_lleast T.d_lleast ["_law_x"] spLeast := ok_lleast T
  have G_least : FnOk P wd K mg base CX0 2 T.a_least T.d_least ["table"] spLeast := ok_least T
  have G_row : FnOk P wd K mg base CX0 1 T.a_row T.d_row ["_law_x", "_law_size"] spSigns := ok_row T
  have G_sign : FnOk P wd K mg base CX0 1 T.a_sign T.d_sign ["_law_x", "_law_n"] spHas := ok_sign T
  have G_has : FnOk P wd K mg base CX0 1 T.a_has T.d_has ["table", "number"] spHas := ok_has T
  have G_signs : FnOk P wd K mg base CX0 1 T.a_signs T.d_signs ["table", "many"] spSigns := ok_signs T
  refine fnG_of T.F_law sc_law (fun vs H Q E h => ?_) (fun cdv A ou s H vs Q E hgd0 hr h => ?_)
  · obtain ⟨a, ns, rfl, _⟩ := h
    rfl
  · have hgd : (cxOf CX0 P wd K mg base nm_law "law" (defScope s_law) T.a_law cdv A ou s H E).nox.A.guards = some [] := hgd0
    have hu4 : (cxOf CX0 P wd K mg base nm_law "law" (defScope s_law) T.a_law cdv A ou s H E).nox.A.units + 64 < cLine := hr.units
    obtain ⟨a, ns, rfl, hS, hl, q⟩ := h
    refine ⟨_, (pss_cons (ps_set (i := 1) sc_law.nd rfl (Or.inl rfl) (pe_call G_well (hr.mono (by decide)) rfl T.g_well T.F_well.kp (b_well T) .nil pass0 (pa_cons (pv 0) pa_nil)))
      (pss_cons (ps_for PassesOwn.never rfl (pi_range1 rfl T.n_range (pa_cons pe_int pa_nil)) (pg_name (i := 2) sc_law.nd rfl (Or.inl rfl)) (C8.pss_cut (ps_set (i := 3) sc_law.nd rfl (Or.inl rfl) (pe_ifExp (pt_cmpR op_lt (pv 2) pe_int (nomark _)) (pe_call G_table hr rfl T.g_table T.F_table.kp (b_table T) .nil pass0 (pa_cons (pv 1) (pa_cons (pe_call G_pick (hr.mono (by decide)) rfl T.g_pick T.F_pick.kp (b_pick T) .nil pass0 (pa_cons (pv 1) (pa_cons (pe_lst (pa_cons pe_int (pa_cons pe_int (pa_cons pe_int pa_nil)))) pa_nil))) (pa_cons (pe_call G_pick (hr.mono (by decide)) rfl T.g_pick T.F_pick.kp (b_pick T) .nil pass0 (pa_cons (pv 1) (pa_cons (pe_lst (pa_cons pe_int (pa_cons pe_int (pa_cons pe_int pa_nil)))) pa_nil))) pa_nil)))) (pe_call G_great hr rfl T.g_great T.F_great.kp (b_great T) .nil pass0 (pa_cons (pv 1) pa_nil))))
      (pss_cons (ps_par3 (i := 4) (j := 5) (l := 6) rfl sc_law.nd rfl rfl rfl (by decide) (by decide) (by decide) rfl rfl rfl (pa_cons (pe_callB call_len_str rfl T.n_len PySem.boot_len (pa_cons (pe_ix ix_tup (pv 3) pe_int (fun _ _ => rfl)) pa_nil)) (pa_cons (pe_callB call_len_str rfl T.n_len PySem.boot_len (pa_cons (pe_ix ix_tup (pv 3) pe_int (fun _ _ => rfl)) pa_nil)) (pa_cons (pe_call G_lleast (hr.mono (by decide)) rfl T.g_lleast T.F_lleast.kp (b_lleast T) .nil pass0 (pa_cons (pv 3) pa_nil)) pa_nil))) rfl)
      (pss_cons (ps_if (pt_cmpR op_ne (pe_callB (call_reprD hgd hu4) rfl T.n_repr (by decide +kernel) (pa_cons (pe_call G_least (hr.mono (by decide)) rfl T.g_least T.F_least.kp (b_least T) .nil pass0 (pa_cons (pv 3) pa_nil)) pa_nil)) (pe_callB (call_reprD hgd hu4) rfl T.n_repr (by decide +kernel) (pa_cons (pv 6) pa_nil)) (nomark _)) (pss_one (ps_ret pe_bl)) pss_nil)
      (pss_cons (ps_set (i := 7) sc_law.nd rfl (Or.inl rfl) (pe_lst (pa_cons pe_int (pa_cons pe_int (pa_cons (pv 4) (pa_cons (pe_op op_add (pv 4) pe_int) (pa_cons (pe_op op_sub (pe_op op_add (pv 4) (pv 5)) pe_int) (pa_cons (pe_op op_add (pv 4) (pv 5)) (pa_cons (pe_op op_add (pe_op op_add (pv 4) (pe_op op_mul pe_int (pv 5))) pe_int) (pa_cons (pe_call G_draw (hr.mono (by decide)) rfl T.g_draw T.F_draw.kp (b_draw T) .nil pass0 (pa_cons (pv 1) (pa_cons pe_int pa_nil))) pa_nil))))))))))
      (C8.pss_cut (ps_if (pt_cmpR op_eq (pv 2) pe_int (nomark _)) (pss_one (ps_set (i := 7) sc_law.nd rfl (Or.inl rfl) (pe_lst (pa_cons (pv 4) (pa_cons (pe_op op_add (pv 4) (pv 5)) (pa_cons (pe_call G_pick (hr.mono (by decide)) rfl T.g_pick T.F_pick.kp (b_pick T) .nil pass0 (pa_cons (pv 1) (pa_cons (pe_lst (pa_cons pe_int (pa_cons pe_int (pa_cons pe_int (pa_cons pe_int (pa_cons (pe_call G_draw (hr.mono (by decide)) rfl T.g_draw T.F_draw.kp (b_draw T) .nil pass0 (pa_cons (pv 1) (pa_cons pe_int pa_nil))) pa_nil)))))) pa_nil))) pa_nil)))))) pss_nil)
      (pss_cons (ps_for PassesOwn.never rfl (pi_list (pv 7)) (pg_name (i := 8) sc_law.nd rfl (Or.inl rfl)) (pss_cons (ps_set (i := 9) sc_law.nd rfl (Or.inl rfl) (pe_call G_row (hr.mono (by decide)) rfl T.g_row T.F_row.kp (b_row T) .nil pass0 (pa_cons (pv 3) (pa_cons (pv 8) pa_nil))))
      (pss_one (ps_if (pt_cmpR op_ne (pe_callB (call_reprD hgd hu4) rfl T.n_repr (by decide +kernel) (pa_cons (pe_lst (pa_cons (pe_call G_signs (hr.mono (by decide)) rfl T.g_signs T.F_signs.kp (b_signs T) .nil pass0 (pa_cons (pv 3) (pa_cons (pv 8) pa_nil))) (pa_cons (pe_call G_signs (hr.mono (by decide)) rfl T.g_signs T.F_signs.kp (b_signs T) .nil pass0 (pa_cons (pv 6) (pa_cons (pv 8) pa_nil))) (pa_cons (pe_callK0 G_signs (hr.mono (by decide)) rfl T.g_signs T.F_signs.kp (kb_signs_many_table T) pass0 (pk_cons (pv 8) (pk_cons (pv 3) pk_nil))) pa_nil)))) pa_nil)) (pe_callB (call_reprD hgd hu4) rfl T.n_repr (by decide +kernel) (pa_cons (pe_lst (pa_cons (pv 9) (pa_cons (pv 9) (pa_cons (pv 9) pa_nil)))) pa_nil)) (nomark _)) (pss_one (ps_ret pe_bl)) pss_nil))))
      (C8.pss_cut (ps_set (i := 10) sc_law.nd rfl (Or.inl rfl) (pe_ifExp (pt_cmpR op_lt (pv 2) pe_int (nomark _)) (pe_listRg rfl rfl T.n_list (prg_1 rfl T.n_range (pe_op op_add (pe_op op_add (pv 4) (pv 5)) pe_int))) (pe_lst (pa_cons pe_int (pa_cons pe_int (pa_cons (pe_callB (call_max2 rfl) rfl T.n_max (by decide +kernel) (pa_cons pe_int (pa_cons (pe_op op_sub (pv 4) pe_int) pa_nil))) (pa_cons (pv 4) (pa_cons (pe_op op_add (pv 4) pe_int) (pa_cons (pe_op op_sub (pe_op op_add (pv 4) (pv 5)) pe_int) (pa_cons (pe_op op_add (pv 4) (pv 5)) (pa_cons (pe_op op_add (pe_op op_mul pe_int (pv 4)) (pv 5)) pa_nil)))))))))))
      (pss_cons (ps_set (i := 9) sc_law.nd rfl (Or.inl rfl) (pe_call G_row (hr.mono (by decide)) rfl T.g_row T.F_row.kp (b_row T) .nil pass0 (pa_cons (pv 3) (pa_cons (pe_op op_add (pe_callB (cr_max rfl) rfl T.n_max (by decide +kernel) (pa_cons (pv 10) pa_nil)) pe_int) pa_nil))))
      (pss_cons (ps_for PassesOwn.never rfl (pi_list (pv 10)) (pg_name (i := 11) sc_law.nd rfl (Or.inl rfl)) (pss_one (ps_if (pt_cmpR op_ne (pe_callB (call_reprD hgd hu4) rfl T.n_repr (by decide +kernel) (pa_cons (pe_lst (pa_cons (pe_call G_has (hr.mono (by decide)) rfl T.g_has T.F_has.kp (b_has T) .nil pass0 (pa_cons (pv 3) (pa_cons (pv 11) pa_nil))) (pa_cons (pe_call G_has (hr.mono (by decide)) rfl T.g_has T.F_has.kp (b_has T) .nil pass0 (pa_cons (pv 6) (pa_cons (pv 11) pa_nil))) pa_nil))) pa_nil)) (pe_callB (call_reprD hgd hu4) rfl T.n_repr (by decide +kernel) (pa_cons (pe_lst (pa_cons (pe_cmpR op_eq (pe_ix ix_str (pv 9) (pv 11) (fun _ _ => rfl)) pe_str (nomark _)) (pa_cons (pe_cmpR op_eq (pe_ix ix_str (pv 9) (pv 11) (fun _ _ => rfl)) pe_str (nomark _)) pa_nil))) pa_nil)) (nomark _)) (pss_one (ps_ret pe_bl)) pss_nil)))
      (pss_one (ps_for PassesOwn.never rfl (pi_range1 rfl T.n_range (pa_cons pe_int pa_nil)) (pg_name (i := 12) sc_law.nd rfl (Or.inl rfl)) (pss_cons (ps_set (i := 11) sc_law.nd rfl (Or.inl rfl) (pe_call G_far (hr.mono (by decide)) rfl T.g_far T.F_far.kp (b_far T) .nil pass0 (pa_cons (pv 1) pa_nil)))
      (pss_cons (ps_set (i := 13) sc_law.nd rfl (Or.inl rfl) (pe_op op_sub (pv 11) (pe_op op_mul (pe_op op_fdiv (pe_callB (call_max2 rfl) rfl T.n_max (by decide +kernel) (pa_cons pe_int (pa_cons (pe_op op_sub (pv 11) (pv 4)) pa_nil))) (pv 5)) (pv 5))))
      (C8.pss_cut (ps_set (i := 14) sc_law.nd rfl (Or.inl rfl) (pe_ifExp (pt_cmpR op_lt (pv 13) (pe_callB call_len_str rfl T.n_len PySem.boot_len (pa_cons (pv 9) pa_nil)) (nomark _)) (pe_cmpR op_eq (pe_ix ix_str (pv 9) (pv 13) (fun _ _ => rfl)) pe_str (nomark _)) (pe_call G_sign (hr.mono (by decide)) rfl T.g_sign T.F_sign.kp (b_sign T) .nil pass0 (pa_cons (pv 3) (pa_cons (pv 11) pa_nil)))))
      (pss_cons (ps_if (PW.pt (pw_or (pt_cmpR op_ne (pe_callB (call_reprD hgd hu4) rfl T.n_repr (by decide +kernel) (pa_cons (pe_lst (pa_cons (pe_call G_has (hr.mono (by decide)) rfl T.g_has T.F_has.kp (b_has T) .nil pass0 (pa_cons (pv 3) (pa_cons (pv 11) pa_nil))) (pa_cons (pe_call G_has (hr.mono (by decide)) rfl T.g_has T.F_has.kp (b_has T) .nil pass0 (pa_cons (pv 6) (pa_cons (pv 11) pa_nil))) (pa_cons (pe_callK0 G_has (hr.mono (by decide)) rfl T.g_has T.F_has.kp (kb_has_number_table T) pass0 (pk_cons (pv 11) (pk_cons (pv 3) pk_nil))) pa_nil)))) pa_nil)) (pe_callB (call_reprD hgd hu4) rfl T.n_repr (by decide +kernel) (pa_cons (pe_lst (pa_cons (pv 14) (pa_cons (pv 14) (pa_cons (pv 14) pa_nil)))) pa_nil)) (nomark _)) (pw_or1 (pt_cmpR op_ne (pv 14) (pe_call G_sign (hr.mono (by decide)) rfl T.g_sign T.F_sign.kp (b_sign T) .nil pass0 (pa_cons (pv 3) (pa_cons (pv 11) pa_nil))) (nomark _))))) (pss_one (ps_ret pe_bl)) pss_nil)
      (pss_one (ps_if (PW.pt (pw_or (pt_cmpR op_ne (pe_call G_has (hr.mono (by decide)) rfl T.g_has T.F_has.kp (b_has T) .nil pass0 (pa_cons (pv 3) (pa_cons (pv 13) pa_nil))) (pv 14) (nomark _)) (pw_or1 (pt_cmpR op_ne (pe_callB call_reprB rfl T.n_repr (by decide +kernel) (pa_cons (pe_call G_has (hr.mono (by decide)) rfl T.g_has T.F_has.kp (b_has T) .nil pass0 (pa_cons (pv 6) (pa_cons (pv 13) pa_nil))) pa_nil)) (pe_callB call_reprB rfl T.n_repr (by decide +kernel) (pa_cons (pv 14) pa_nil)) (nomark _))))) (pss_one (ps_ret pe_bl)) pss_nil))))))))))))))))))
      (pss_cons (ps_set (i := 15) sc_law.nd rfl (Or.inl rfl) (pe_lst (pa_cons (pe_call G_has (hr.mono (by decide)) rfl T.g_has T.F_has.kp (b_has T) .nil pass0 (pa_cons (pe_tup (pa_cons pe_str (pa_cons pe_str pa_nil))) (pa_cons (pe_op op_pow pe_int pe_int) pa_nil))) (pa_cons (pe_call G_has (hr.mono (by decide)) rfl T.g_has T.F_has.kp (b_has T) .nil pass0 (pa_cons (pe_tup (pa_cons pe_str (pa_cons pe_str pa_nil))) (pa_cons (pe_op op_sub (pe_op op_pow pe_int pe_int) pe_int) pa_nil))) (pa_cons (pe_call G_has (hr.mono (by decide)) rfl T.g_has T.F_has.kp (b_has T) .nil pass0 (pa_cons (pe_tup (pa_cons pe_str (pa_cons pe_str pa_nil))) (pa_cons (pe_op op_pow pe_int pe_int) pa_nil))) pa_nil)))))
      (pss_one (ps_ret (pe_cmpR op_eq (pe_callB (call_reprD hgd hu4) rfl T.n_repr (by decide +kernel) (pa_cons (pe_op op_cat (pv 15) (pe_lst (pa_cons (pe_call G_signs (hr.mono (by decide)) rfl T.g_signs T.F_signs.kp (b_signs T) .nil pass0 (pa_cons (pe_tup (pa_cons pe_str (pa_cons pe_str pa_nil))) (pa_cons pe_int pa_nil))) pa_nil))) pa_nil)) (pe_callB (call_reprD hgd hu4) rfl T.n_repr (by decide +kernel) (pa_cons (pe_lst (pa_cons pe_bl (pa_cons pe_bl (pa_cons pe_bl (pa_cons pe_str pa_nil))))) pa_nil)) (nomark _))))))), ?_⟩
    walk_at "go"
    refine ⟨a, ns, rfl, hS, hl, fun w g H1 s1 W1 => ?_⟩
    walk_at "go"
    refine for_range (lo := 0) (n := 7) (fun i σ H2 => ∃ y2 y3 y4 y5 y6 y7 y8 y9 y10 y11 y12 y13 y14 y15 : Option V, σ = [some (.ref a), some (.ref w), y2, y3, y4, y5, y6, y7, y8, y9, y10, y11, y12, y13, y14, y15] ∧ WellAt w g H2)
      ⟨_, _, _, _, _, _, _, _, _, _, _, _, _, _, rfl, W1⟩ (fun i σ H2 hi px => ?_) (fun σ H2 px => ?_)
    · obtain ⟨y2, y3, y4, y5, y6, y7, y8, y9, y10, y11, y12, y13, y14, y15, rfl, W2⟩ := px
      -- x
      refine ⟨fun σ' H' => ∃ (p : Addr) (h t : List Bool), σ' = [some (.ref a), some (.ref w), some (.int (0 + (i : Int))), some (.ref p), y4, y5, y6, y7, y8, y9, y10, y11, y12, y13, y14, y15] ∧ WellAt w g H' ∧ Tab H' p h t, ?_, ?_⟩
      · walk_at "go"
        refine ifD (fun lt => ?_) (fun nlt => ?_)
        · walk_at "go"
          intro p1 np1
          generalize hU1 : upd H2 p1 _ = H3
          obtain ⟨s3, W3, ap1⟩ := new_of W2 np1 hU1
          refine ⟨w, g, p1, _, rfl, W3, ap1, by simp, by simp, fun x H4 mx s4 W4 => ?_⟩
          obtain ⟨j, mj, rfl⟩ := mem_ints (ns := [2, 9, 30]) rfl mx
          have j01 : 0 ≤ j ∧ j ≤ 30 := by
            simp at mj
            omega
          walk_at "go"
          intro p2 np2
          generalize hU2 : upd H4 p2 _ = H5
          obtain ⟨s5, W5, ap2⟩ := new_of W4 np2 hU2
          refine ⟨w, g, p2, _, rfl, W5, ap2, by simp, by simp, fun x H6 mx s6 W6 => ?_⟩
          obtain ⟨k, mk, rfl⟩ := mem_ints (ns := [1, 5, 16]) rfl mx
          have k01 : 1 ≤ k ∧ k ≤ 16 := by
            simp at mk
            omega
          refine ⟨w, g, j, k, rfl, W6, j01.1, by omega, k01.1, by omega, fun p H7 h t s7 W7 tb _ _ => ?_⟩
          exact ⟨p, h, t, rfl, W7, tb⟩
        · refine ⟨_, rfl, ?_⟩
          refine ⟨w, g, rfl, W2, fun p H7 h t s7 W7 tb _ _ => ?_⟩
          exact ⟨p, h, t, rfl, W7, tb⟩
      · rintro σ' H3 ⟨p, h, t, rfl, W3, tb⟩
        obtain ⟨s, per⟩ := per_exists tb.2.2.1
        obtain ⟨m, beg⟩ := beg_exists (h := h) (t := t) (s := s)
        have hp := tb.1
        have hb := tb.2
        have h5 := tb.2.1
        have t0 := tb.2.2.1
        have t5 := tb.2.2.2
        have me := beg.le
        have se := per.le
        walk_at "go"
        refine ⟨p, h, t, s, m, rfl, tb, per, beg, fun py H4 s4 ty => ?_⟩
        have W4 := W3.same s4
        have tx := tb.same s4
        have es : ∀ n, sg (rng (sg h t) 0 m) (rng (sg h t) m s) n = sg h t n := sg_least beg per
        have efun : sg (rng (sg h t) 0 m) (rng (sg h t) m s) = sg h t := funext es
        walk_at "go"
        refine ⟨p, h, t, s, m, rfl, tx, per, beg, fun pz H5 s5 tz => ?_⟩
        have W5 := W4.same s5
        replace tx := tx.same s5
        replace ty := ty.same s5
        walk_at "go"
        refine repr_tab tz.1 tz.2.1 tz.2.2.2 ?_
        walk_at "go"
        refine repr_tab ty.1 ty.2.1 ty.2.2.2 ?_
        walk_at "go"
        refine ifDn (fun c => absurd rfl c) (fun _ => ?_)
        walk_at "go"
        refine ⟨w, g, _, rfl, W5, by omega, by omega, fun d H6 s6 W6 d0 d1 => ?_⟩
        have x6 := (W5.tup tx.1).go s6
        have y6' := (W5.tup ty.1).go s6
        walk_at "go"
        intro pl npl
        generalize hUl : upd H6 pl _ = H7
        obtain ⟨s7, W7, apl⟩ := new_of W6 npl hUl
        have x7 := x6.go (Go.of s7)
        have y7' := y6'.go (Go.of s7)
        -- the sizes
        refine ⟨fun σ' H' => ∃ (q7 : Addr) (zs : List Int), σ' = [some (.ref a), some (.ref w), some (.int (0 + (i : Int))), some (.ref p), some (.int h.length), some (.int t.length), some (.ref py), some (.ref q7), y8, y9, y10, y11, y12, y13, y14, y15] ∧
          WellAt w g H' ∧ Go w g H7 H' ∧ At w g H' q7 (.lst (zs.map V.int)) ∧ ∀ z ∈ zs, 0 ≤ z ∧ z ≤ 30000, ?_, ?_⟩
        · walk_at "go"
          refine ifD (fun e6 => ?_) (fun n6 => ?_)
          · walk_at "go"
            refine ⟨w, g, _, rfl, W7, by omega, by omega, fun e H8 s8 W8 e0 e1 => ?_⟩
            walk_at "go"
            intro p2 np2
            generalize hU2 : upd H8 p2 _ = H9
            obtain ⟨s9, W9, ap2⟩ := new_of W8 np2 hU2
            refine ⟨w, g, p2, _, rfl, W9, ap2, by simp, by simp, fun x H10 mx s10 W10 => ?_⟩
            obtain ⟨j, mj, rfl⟩ := mem_ints (ns := [20000, 19999, 20001, 20007, e]) rfl mx
            have j01 : 0 ≤ j ∧ j ≤ 20007 := by
              simp at mj
              omega
            walk_at "go"
            intro p3 np3
            generalize hU3 : upd H10 p3 _ = H11
            obtain ⟨s11, W11, ap3⟩ := new_of W10 np3 hU3
            refine ⟨p3, [(h.length : Int), (h.length : Int) + t.length, j], rfl, W11, ((s8.trans (Go.of s9)).trans s10).trans (Go.of s11), ap3, fun z hz => ?_⟩
            simp at hz
            omega
          · refine ⟨pl, [0, 1, (h.length : Int), (h.length : Int) + 1, (h.length : Int) + t.length - 1, (h.length : Int) + t.length, (h.length : Int) + 2 * t.length + 3, d], rfl, W7, Go.refl, apl, fun z hz => ?_⟩
            simp at hz
            omega
        · rintro σ' H8 ⟨q7, zs, rfl, W8, s8, L8, hz⟩
          have x8 := x7.go s8
          have y8' := y7'.go s8
          have hL8 := L8.at_
          walk_at "go"
          refine ⟨⟨_, L8.sqL⟩, ?_⟩
          refine for_list (xs := zs.map V.int) (fun j σ H9 => ∃ y8 y9 : Option V, σ = [some (.ref a), some (.ref w), some (.int (0 + (i : Int))), some (.ref p), some (.int h.length), some (.int t.length), some (.ref py), some (.ref q7), y8, y9, y10, y11, y12, y13, y14, y15] ∧
            WellAt w g H9 ∧ Go w g H8 H9) ⟨_, _, rfl, W8, Go.refl⟩ (fun j σ H9 _ px => ?_) (fun j v σ H9 hv px => ?_) (fun σ H9 px => ?_)
          · obtain ⟨_, _, _, _, S9⟩ := px
            exact (L8.go S9).sqL
          · obtain ⟨y8, y9, rfl, W9, S9⟩ := px
            obtain ⟨z, hz2, rfl⟩ := mem_ints (x := v) (ns := zs) rfl (List.mem_of_getElem? hv)
            have z01 := hz z hz2
            have tx9 : Tab H9 p h t := ⟨(x8.go S9).at_, hb⟩
            have ty9 : Tab H9 py (rng (sg h t) 0 m) (rng (sg h t) m s) := ⟨(y8'.go S9).at_, tz.2⟩
            have ly : (rng (sg h t) 0 z.toNat).length ≤ 100000 := by rw [rng_len]; omega
            walk_at "go"
            refine ⟨p, h, t, z, rfl, tx9, z01.1, z01.2, ?_⟩
            walk_at "go"
            refine ⟨p, h, t, z, rfl, tx9, z01.1, z01.2, ?_⟩
            walk_at "go"
            refine ⟨py, _, _, z, rfl, ty9, z01.1, z01.2, ?_⟩
            rw [efun]
            walk_at "go"
            refine ⟨p, h, t, z, rfl, tx9, z01.1, z01.2, ?_⟩
            walk_at "go"
            intro p1 np1
            generalize hU1 : upd H9 p1 _ = H10
            obtain ⟨s10, W10, ap1⟩ := new_of W9 np1 hU1
            refine repr_s3 ap1.at_ ly ly ly ?_
            walk_at "go"
            intro p2 np2
            generalize hU2 : upd H10 p2 _ = H11
            obtain ⟨s11, W11, ap2⟩ := new_of W10 np2 hU2
            refine repr_s3 ap2.at_ ly ly ly ?_
            walk_at "go"
            refine ifDn (fun c => absurd rfl c) (fun _ => ?_)
            exact ⟨_, _, rfl, W11, (S9.trans (Go.of s10)).trans (Go.of s11)⟩
          · obtain ⟨y8, y9, rfl, W9, S9⟩ := px
            have x9 := x8.go S9
            have y9' := y8'.go S9
            -- near
            refine ⟨fun σ' H' => ∃ (qn : Addr) (ms : List Int), σ' = [some (.ref a), some (.ref w), some (.int (0 + (i : Int))), some (.ref p), some (.int h.length), some (.int t.length), some (.ref py), some (.ref q7), y8, y9, some (.ref qn), y11, y12, y13, y14, y15] ∧
              WellAt w g H' ∧ Go w g H9 H' ∧ At w g H' qn (.lst (ms.map V.int)) ∧ (∀ z ∈ ms, 0 ≤ z ∧ z ≤ 16000) ∧ 0 < ms.length, ?_, ?_⟩
            · walk_at "go"
              refine ifD (fun lt6 => ?_) (fun ge6 => ?_)
              · walk_at "go"
                intro pn npn
                generalize hUn : upd H9 pn _ = H10
                obtain ⟨s10, W10, apn⟩ := new_of W9 npn hUn
                refine ⟨pn, (List.range ((h.length : Int) + t.length + 2 - 0).toNat).map fun k => (0 + (k : Nat) : Int), rfl, W10, Go.of s10, ?_, fun z hz => ?_, ?_⟩
                · unfold rgV at apn
                  rw [List.map_map]
                  exact apn
                · obtain ⟨k, hk, rfl⟩ := List.mem_map.mp hz
                  rw [List.mem_range] at hk
                  omega
                · rw [List.length_map, List.length_range]
                  omega
              · walk_at "go"
                intro pn npn
                generalize hUn : upd H9 pn _ = H10
                obtain ⟨s10, W10, apn⟩ := new_of W9 npn hUn
                refine ⟨pn, [0, 1, if (h.length : Int) - 1 > 0 then (h.length : Int) - 1 else 0, (h.length : Int), (h.length : Int) + 1, (h.length : Int) + t.length - 1, (h.length : Int) + t.length, 2 * (h.length : Int) + t.length], rfl, W10, Go.of s10, apn, fun z hz => ?_, by simp⟩
                simp at hz
                rcases hz with rfl | rfl | rfl | rfl | rfl | rfl | rfl | rfl
                all_goals first | omega | (split <;> omega)
            · rintro σ' H10 ⟨qn, ms, rfl, W10, s10, L10, hms, m0⟩
              have x10 := x9.go s10
              have y10' := y9'.go s10
              have tx10 : Tab H10 p h t := ⟨x10.at_, hb⟩
              walk_at "go"
              refine ⟨qn, ms, rfl, L10.sqL, m0, fun M hM hmax => ?_⟩
              have M01 := hms M hM
              walk_at "go"
              refine ⟨p, h, t, M + 1, rfl, tx10, by omega, by omega, ?_⟩
              have lrow : (rng (sg h t) 0 (M + 1).toNat).length = (M + 1).toNat := rng_len _ _ _
              walk_at "go"
              refine ⟨⟨_, L10.sqL⟩, ?_⟩
              refine for_list (xs := ms.map V.int) (fun j σ H11 => ∃ y11 : Option V, σ = [some (.ref a), some (.ref w), some (.int (0 + (i : Int))), some (.ref p), some (.int h.length), some (.int t.length), some (.ref py), some (.ref q7), y8, some (.str (B (rng (sg h t) 0 (M + 1).toNat))), some (.ref qn), y11, y12, y13, y14, y15] ∧
                WellAt w g H11 ∧ Go w g H10 H11) ⟨_, rfl, W10, Go.refl⟩ (fun j σ H11 _ px => ?_) (fun j v σ H11 hv px => ?_) (fun σ H11 px => ?_)
              · obtain ⟨_, _, _, S⟩ := px
                exact (L10.go S).sqL
              · obtain ⟨y11, rfl, W11, S11⟩ := px
                obtain ⟨z, hz2, rfl⟩ := mem_ints (x := v) (ns := ms) rfl (List.mem_of_getElem? hv)
                have z01 := hms z hz2
                have zM := hmax z hz2
                have tx11 : Tab H11 p h t := ⟨(x10.go S11).at_, hb⟩
                have ty11 : Tab H11 py (rng (sg h t) 0 m) (rng (sg h t) m s) := ⟨(y10'.go S11).at_, tz.2⟩
                have rz : (rng (sg h t) 0 (M + 1).toNat)[z.toNat]? = some (sg h t z.toNat) := by
                  rw [rng_get _ _ _ _ (by omega), Nat.zero_add]
                simp only [B_1]
                walk_at "go"
                refine ⟨p, h, t, z, rfl, tx11, z01.1, ?_⟩
                walk_at "go"
                refine ⟨py, _, _, z, rfl, ty11, z01.1, ?_⟩
                rw [efun]
                walk_at "go"
                intro p1 np1
                generalize hU1 : upd H11 p1 _ = H12
                obtain ⟨s12, W12, ap1⟩ := new_of W11 np1 hU1
                refine repr_bs [sg h t z.toNat, sg h t z.toNat] ap1.at_ rfl (by simp) ?_
                walk_at "go"
                refine go_ixS (k := z.toNat) (by omega) (by omega) rz ?_
                rw [B_one]
                walk_at "go"
                refine go_ixS (k := z.toNat) (by omega) (by omega) rz ?_
                rw [B_one]
                walk_at "go"
                rw [B_dec, one_true]
                intro p2 np2
                generalize hU2 : upd H12 p2 _ = H13
                obtain ⟨s13, W13, ap2⟩ := new_of W12 np2 hU2
                refine repr_bs [sg h t z.toNat, sg h t z.toNat] ap2.at_ rfl (by simp) ?_
                walk_at "go"
                refine ifDn (fun c => absurd rfl c) (fun _ => ?_)
                exact ⟨_, rfl, W13, (S11.trans (Go.of s12)).trans (Go.of s13)⟩
              · obtain ⟨y11, rfl, W11, S11⟩ := px
                have x11 := x10.go S11
                have y11' := y10'.go S11
                walk_at "go"
                refine for_range (lo := 0) (n := 6) (fun j σ H12 => ∃ y11 y12 y13 y14 : Option V, σ = [some (.ref a), some (.ref w), some (.int (0 + (i : Int))), some (.ref p), some (.int h.length), some (.int t.length), some (.ref py), some (.ref q7), y8, some (.str (B (rng (sg h t) 0 (M + 1).toNat))), some (.ref qn), y11, y12, y13, y14, y15] ∧
                  WellAt w g H12 ∧ Go w g H11 H12) ⟨_, _, _, _, rfl, W11, Go.refl⟩ (fun j σ H12 hj px => ?_) (fun σ H12 px => ?_)
                · obtain ⟨y11, y12, y13, y14, rfl, W12, S12⟩ := px
                  simp only [B_1]
                  walk_at "go"
                  refine ⟨w, g, rfl, W12, fun n H13 s13 W13 n0 n1 => ?_⟩
                  have tx13 : Tab H13 p h t := ⟨(x11.go (S12.trans s13)).at_, hb⟩
                  have ty13 : Tab H13 py (rng (sg h t) 0 m) (rng (sg h t) m s) := ⟨(y11'.go (S12.trans s13)).at_, tz.2⟩
                  obtain ⟨l0, lsg⟩ := less_ok (h := h) (t := t) n0 t0
                  have tl : -(2 ^ 64) < (t.length : Int) ∧ (t.length : Int) < 2 ^ 64 := by omega
                  walk_at "go"
                  refine ⟨fun σ' H' => ∃ L : Int, σ' = [some (.ref a), some (.ref w), some (.int (0 + (i : Int))), some (.ref p), some (.int h.length), some (.int t.length), some (.ref py), some (.ref q7), y8, some (.str (B (rng (sg h t) 0 (M + 1).toNat))), some (.ref qn), some (.int n), some (.int (0 + (j : Int))), some (.int L), some (.bl (sg h t n.toNat)), y15] ∧
                    0 ≤ L ∧ sg h t L.toNat = sg h t n.toNat ∧ H' = H13, ?_, ?_⟩
                  · walk_at "go"
                    refine ifD (fun lt => ?_) (fun nlt => ?_)
                    · have rz : ∀ z : Int, 0 ≤ z → z < ((rng (sg h t) 0 (M + 1).toNat).length : Int) → (rng (sg h t) 0 (M + 1).toNat)[z.toNat]? = some (sg h t z.toNat) := fun z z0 z1 => by
                        rw [rng_get _ _ _ _ (by omega), Nat.zero_add]
                      walk_at "go"
                      refine go_ixS (k := _) (Int.toNat_of_nonneg l0).symm (by omega) (rz _ l0 lt) ?_
                      rw [B_one]
                      walk_at "go"
                      rw [B_dec, one_true, lsg]
                      exact ⟨_, rfl, l0, lsg, rfl⟩
                    · refine ⟨_, rfl, _, rfl, ?_⟩
                      refine ⟨p, h, t, n, rfl, tx13, n0, ?_⟩
                      exact ⟨_, rfl, l0, lsg, rfl⟩
                  · rintro σ' H14 ⟨L, rfl, L0, Lsg, rfl⟩
                    walk_at "go"
                    refine ⟨p, h, t, n, rfl, tx13, n0, ?_⟩
                    walk_at "go"
                    refine ⟨py, _, _, n, rfl, ty13, n0, ?_⟩
                    rw [efun]
                    walk_at "go"
                    refine ⟨p, h, t, n, rfl, tx13, n0, ?_⟩
                    walk_at "go"
                    intro p1 np1
                    generalize hU1 : upd H14 p1 _ = H15
                    obtain ⟨s15, W15, ap1⟩ := new_of W13 np1 hU1
                    refine repr_bs [sg h t n.toNat, sg h t n.toNat, sg h t n.toNat] ap1.at_ rfl (by simp) ?_
                    walk_at "go"
                    intro p2 np2
                    generalize hU2 : upd H15 p2 _ = H16
                    obtain ⟨s16, W16, ap2⟩ := new_of W15 np2 hU2
                    have tx16 := (tx13.same s15).same s16
                    have ty16 := (ty13.same s15).same s16
                    refine repr_bs [sg h t n.toNat, sg h t n.toNat, sg h t n.toNat] ap2.at_ rfl (by simp) ?_
                    walk_at "go"
                    refine ifDn (fun c => absurd rfl c) (fun _ => ?_)
                    walk_at "go"
                    refine ⟨p, h, t, n, rfl, tx16, n0, ?_⟩
                    walk_at "go"
                    refine ifDn (fun c => absurd rfl c) (fun _ => ?_)
                    walk_at "go"
                    refine ⟨p, h, t, L, rfl, tx16, L0, ?_⟩
                    rw [Lsg]
                    walk_at "go"
                    refine ifDn (fun c => absurd rfl c) (fun _ => ?_)
                    walk_at "go"
                    refine ⟨py, _, _, L, rfl, ty16, L0, ?_⟩
                    rw [efun, Lsg]
                    walk_at "go"
                    refine ifDn (fun c => absurd rfl c) (fun _ => ?_)
                    exact ⟨_, _, _, _, rfl, W16, ((S12.trans s13).trans (Go.of s15)).trans (Go.of s16)⟩
                · obtain ⟨y11, y12, y13, y14, rfl, W12, S12⟩ := px
                  exact ⟨_, _, _, _, _, _, _, _, _, _, _, _, _, _, rfl, W12⟩
    · obtain ⟨y2, y3, y4, y5, y6, y7, y8, y9, y10, y11, y12, y13, y14, y15, rfl, W2⟩ := px
      simp only [B_0, B_1, B_nil, L_01, L_001, L_1000]
      walk_at "go"
      intro p1 np1
      generalize hU1 : upd H2 p1 _ = H3
      obtain ⟨s3, ap1⟩ := new_of0 np1 hU1
      walk_at "go"
      refine ⟨p1, [false, true], [false, false, true], _, rfl, ⟨ap1, by decide, by decide, by decide⟩, by decide, ?_⟩
      rw [show sg [false, true] [false, false, true] ((10 : Int) ^ Int.toNat 18).toNat = true by decide +kernel]
      walk_at "go"
      intro p2 np2
      generalize hU2 : upd H3 p2 _ = H4
      obtain ⟨s4, ap2⟩ := new_of0 np2 hU2
      walk_at "go"
      refine ⟨p2, [false, true], [false, false, true], _, rfl, ⟨ap2, by decide, by decide, by decide⟩, by decide, ?_⟩
      rw [show sg [false, true] [false, false, true] ((10 : Int) ^ Int.toNat 18 - 2).toNat = false by decide +kernel]
      walk_at "go"
      intro p3 np3
      generalize hU3 : upd H4 p3 _ = H5
      obtain ⟨s5, ap3⟩ := new_of0 np3 hU3
      walk_at "go"
      refine ⟨p3, [], [false, true], _, rfl, ⟨ap3, by decide, by decide, by decide⟩, by decide, ?_⟩
      rw [show sg [] [false, true] ((10 : Int) ^ Int.toNat 18).toNat = false by decide +kernel]
      walk_at "go"
      intro p4 np4
      generalize hU4 : upd H5 p4 _ = H6
      obtain ⟨s6, ap4⟩ := new_of0 np4 hU4
      walk_at "go"
      intro p5 np5
      generalize hU5 : upd H6 p5 _ = H7
      obtain ⟨s7, ap5⟩ := new_of0 np5 hU5
      walk_at "go"
      refine ⟨p5, [true], [false], 4, rfl, ⟨ap5, by decide, by decide, by decide⟩, by decide, by decide, ?_⟩
      rw [show rng (sg [true] [false]) 0 (4 : Int).toNat = [true, false, false, false] by decide +kernel]
      walk_at "go"
      intro p6 np6
      generalize hU6 : upd H7 p6 _ = H8
      obtain ⟨s8, ap6⟩ := new_of0 np6 hU6
      refine ⟨p4, p6, _, _, rfl, rfl, s8 _ _ (s7 _ _ ap4), ap6, szl (by simp), fun p7 np7 => ?_⟩
      generalize hU7 : upd H8 p7 _ = H9
      obtain ⟨s9, ap7⟩ := new_of0 np7 hU7
      refine repr_mix (a := true) (b := false) (c := false) (x := [true, false, false, false]) ap7 (by simp) ?_
      walk_at "go"
      intro p8 np8
      generalize hU8 : upd H9 p8 _ = H10
      obtain ⟨s10, ap8⟩ := new_of0 np8 hU8
      refine repr_mix (a := true) (b := false) (c := false) (x := [true, false, false, false]) ap8 (by simp) ?_
      walk_at "go"
      rw [decide_eq_true rfl]
      exact q _
end
theorem all_mk {l : PySem.W.OpenLaw} {w : World} {K : PySem.W.Frag} {h : Heap} {mg : Str → Option Value} {fa : Addr} (X : K.In h) (G : h.Ns mainGlobals mg) (hfa : mg "law" = some (.ref fa))
    {f_least : Addr} {od_least an_least : Option Addr} {sl_least : Array (Option Value)} {oc_least kV_least dc_least pm_least cd_least ct_least : Value}
    {f_shortest : Addr} {od_shortest an_shortest : Option Addr} {sl_shortest : Array (Option Value)} {oc_shortest kV_shortest dc_shortest pm_shortest cd_shortest ct_shortest : Value}
    {f_alike : Addr} {od_alike an_alike : Option Addr} {sl_alike : Array (Option Value)} {oc_alike kV_alike dc_alike pm_alike cd_alike ct_alike : Value}
    {f_has : Addr} {od_has an_has : Option Addr} {sl_has : Array (Option Value)} {oc_has kV_has dc_has pm_has cd_has ct_has : Value}
    {f_signs : Addr} {od_signs an_signs : Option Addr} {sl_signs : Array (Option Value)} {oc_signs kV_signs dc_signs pm_signs cd_signs ct_signs : Value}
    {f_well : Addr} {od_well an_well : Option Addr} {sl_well : Array (Option Value)} {oc_well kV_well dc_well pm_well cd_well ct_well : Value}
    {f_draw : Addr} {od_draw an_draw : Option Addr} {sl_draw : Array (Option Value)} {oc_draw kV_draw dc_draw pm_draw cd_draw ct_draw : Value}
    {f_pick : Addr} {od_pick an_pick : Option Addr} {sl_pick : Array (Option Value)} {oc_pick kV_pick dc_pick pm_pick cd_pick ct_pick : Value}
    {f_far : Addr} {od_far an_far : Option Addr} {sl_far : Array (Option Value)} {oc_far kV_far dc_far pm_far cd_far ct_far : Value}
    {f_bits : Addr} {od_bits an_bits : Option Addr} {sl_bits : Array (Option Value)} {oc_bits kV_bits dc_bits pm_bits cd_bits ct_bits : Value}
    {f_word : Addr} {od_word an_word : Option Addr} {sl_word : Array (Option Value)} {oc_word kV_word dc_word pm_word cd_word ct_word : Value}
    {f_table : Addr} {od_table an_table : Option Addr} {sl_table : Array (Option Value)} {oc_table kV_table dc_table pm_table cd_table ct_table : Value}
    {f_lleast : Addr} {od_lleast an_lleast : Option Addr} {sl_lleast : Array (Option Value)} {oc_lleast kV_lleast dc_lleast pm_lleast cd_lleast ct_lleast : Value}
    {f_row : Addr} {od_row an_row : Option Addr} {sl_row : Array (Option Value)} {oc_row kV_row dc_row pm_row cd_row ct_row : Value}
    {f_sign : Addr} {od_sign an_sign : Option Addr} {sl_sign : Array (Option Value)} {oc_sign kV_sign dc_sign pm_sign cd_sign ct_sign : Value}
    {f_great : Addr} {od_great an_great : Option Addr} {sl_great : Array (Option Value)} {oc_great kV_great dc_great pm_great cd_great ct_great : Value}
    {f_law : Addr} {od_law an_law : Option Addr} {sl_law : Array (Option Value)} {oc_law kV_law dc_law pm_law cd_law ct_law : Value}
    (a_least : PySem.W.nsIn K mainGlobals "least" = some (some (.ref f_least)))
    (l_least : K.lookup f_least = some ⟨oc_least, od_least, .func (PySem.W.fnOf "least" "least" (defArgs s_least) (defBody s_least) (defScope s_least) .none kV_least dc_least pm_least an_least cd_least ct_least), sl_least⟩)
    (c_least : PySem.W.codeIn K cd_least "least" = true) (k_least : PySem.W.keepIn K (.ref f_least) = true)
    (a_shortest : PySem.W.nsIn K mainGlobals "_shortest_turn" = some (some (.ref f_shortest)))
    (l_shortest : K.lookup f_shortest = some ⟨oc_shortest, od_shortest, .func (PySem.W.fnOf "_shortest_turn" "_shortest_turn" (defArgs s_shortest) (defBody s_shortest) (defScope s_shortest) .none kV_shortest dc_shortest pm_shortest an_shortest cd_shortest ct_shortest), sl_shortest⟩)
    (c_shortest : PySem.W.codeIn K cd_shortest "_shortest_turn" = true) (k_shortest : PySem.W.keepIn K (.ref f_shortest) = true)
    (a_alike : PySem.W.nsIn K mainGlobals "_alike_signs" = some (some (.ref f_alike)))
    (l_alike : K.lookup f_alike = some ⟨oc_alike, od_alike, .func (PySem.W.fnOf "_alike_signs" "_alike_signs" (defArgs s_alike) (defBody s_alike) (defScope s_alike) .none kV_alike dc_alike pm_alike an_alike cd_alike ct_alike), sl_alike⟩)
    (c_alike : PySem.W.codeIn K cd_alike "_alike_signs" = true) (k_alike : PySem.W.keepIn K (.ref f_alike) = true)
    (a_has : PySem.W.nsIn K mainGlobals "has" = some (some (.ref f_has)))
    (l_has : K.lookup f_has = some ⟨oc_has, od_has, .func (PySem.W.fnOf "has" "has" (defArgs s_has) (defBody s_has) (defScope s_has) .none kV_has dc_has pm_has an_has cd_has ct_has), sl_has⟩)
    (c_has : PySem.W.codeIn K cd_has "has" = true) (k_has : PySem.W.keepIn K (.ref f_has) = true)
    (a_signs : PySem.W.nsIn K mainGlobals "signs" = some (some (.ref f_signs)))
    (l_signs : K.lookup f_signs = some ⟨oc_signs, od_signs, .func (PySem.W.fnOf "signs" "signs" (defArgs s_signs) (defBody s_signs) (defScope s_signs) .none kV_signs dc_signs pm_signs an_signs cd_signs ct_signs), sl_signs⟩)
    (c_signs : PySem.W.codeIn K cd_signs "signs" = true) (k_signs : PySem.W.keepIn K (.ref f_signs) = true)
    (a_well : PySem.W.nsIn K mainGlobals "_law_well" = some (some (.ref f_well)))
    (l_well : K.lookup f_well = some ⟨oc_well, od_well, .func (PySem.W.fnOf "_law_well" "_law_well" (defArgs s_well) (defBody s_well) (defScope s_well) .none kV_well dc_well pm_well an_well cd_well ct_well), sl_well⟩)
    (c_well : PySem.W.codeIn K cd_well "_law_well" = true) (k_well : PySem.W.keepIn K (.ref f_well) = true)
    (a_draw : PySem.W.nsIn K mainGlobals "_law_draw" = some (some (.ref f_draw)))
    (l_draw : K.lookup f_draw = some ⟨oc_draw, od_draw, .func (PySem.W.fnOf "_law_draw" "_law_draw" (defArgs s_draw) (defBody s_draw) (defScope s_draw) .none kV_draw dc_draw pm_draw an_draw cd_draw ct_draw), sl_draw⟩)
    (c_draw : PySem.W.codeIn K cd_draw "_law_draw" = true) (k_draw : PySem.W.keepIn K (.ref f_draw) = true)
    (a_pick : PySem.W.nsIn K mainGlobals "_law_pick" = some (some (.ref f_pick)))
    (l_pick : K.lookup f_pick = some ⟨oc_pick, od_pick, .func (PySem.W.fnOf "_law_pick" "_law_pick" (defArgs s_pick) (defBody s_pick) (defScope s_pick) .none kV_pick dc_pick pm_pick an_pick cd_pick ct_pick), sl_pick⟩)
    (c_pick : PySem.W.codeIn K cd_pick "_law_pick" = true) (k_pick : PySem.W.keepIn K (.ref f_pick) = true)
    (a_far : PySem.W.nsIn K mainGlobals "_law_far" = some (some (.ref f_far)))
    (l_far : K.lookup f_far = some ⟨oc_far, od_far, .func (PySem.W.fnOf "_law_far" "_law_far" (defArgs s_far) (defBody s_far) (defScope s_far) .none kV_far dc_far pm_far an_far cd_far ct_far), sl_far⟩)
    (c_far : PySem.W.codeIn K cd_far "_law_far" = true) (k_far : PySem.W.keepIn K (.ref f_far) = true)
    (a_bits : PySem.W.nsIn K mainGlobals "_law_bits" = some (some (.ref f_bits)))
    (l_bits : K.lookup f_bits = some ⟨oc_bits, od_bits, .func (PySem.W.fnOf "_law_bits" "_law_bits" (defArgs s_bits) (defBody s_bits) (defScope s_bits) .none kV_bits dc_bits pm_bits an_bits cd_bits ct_bits), sl_bits⟩)
    (c_bits : PySem.W.codeIn K cd_bits "_law_bits" = true) (k_bits : PySem.W.keepIn K (.ref f_bits) = true)
    (a_word : PySem.W.nsIn K mainGlobals "_law_word" = some (some (.ref f_word)))
    (l_word : K.lookup f_word = some ⟨oc_word, od_word, .func (PySem.W.fnOf "_law_word" "_law_word" (defArgs s_word) (defBody s_word) (defScope s_word) .none kV_word dc_word pm_word an_word cd_word ct_word), sl_word⟩)
    (c_word : PySem.W.codeIn K cd_word "_law_word" = true) (k_word : PySem.W.keepIn K (.ref f_word) = true)
    (a_table : PySem.W.nsIn K mainGlobals "_law_table" = some (some (.ref f_table)))
    (l_table : K.lookup f_table = some ⟨oc_table, od_table, .func (PySem.W.fnOf "_law_table" "_law_table" (defArgs s_table) (defBody s_table) (defScope s_table) .none kV_table dc_table pm_table an_table cd_table ct_table), sl_table⟩)
    (c_table : PySem.W.codeIn K cd_table "_law_table" = true) (k_table : PySem.W.keepIn K (.ref f_table) = true)
    (a_lleast : PySem.W.nsIn K mainGlobals "_law_least" = some (some (.ref f_lleast)))
    (l_lleast : K.lookup f_lleast = some ⟨oc_lleast, od_lleast, .func (PySem.W.fnOf "_law_least" "_law_least" (defArgs s_lleast) (defBody s_lleast) (defScope s_lleast) .none kV_lleast dc_lleast pm_lleast an_lleast cd_lleast ct_lleast), sl_lleast⟩)
    (c_lleast : PySem.W.codeIn K cd_lleast "_law_least" = true) (k_lleast : PySem.W.keepIn K (.ref f_lleast) = true)
    (a_row : PySem.W.nsIn K mainGlobals "_law_row" = some (some (.ref f_row)))
    (l_row : K.lookup f_row = some ⟨oc_row, od_row, .func (PySem.W.fnOf "_law_row" "_law_row" (defArgs s_row) (defBody s_row) (defScope s_row) .none kV_row dc_row pm_row an_row cd_row ct_row), sl_row⟩)
    (c_row : PySem.W.codeIn K cd_row "_law_row" = true) (k_row : PySem.W.keepIn K (.ref f_row) = true)
    (a_sign : PySem.W.nsIn K mainGlobals "_law_sign" = some (some (.ref f_sign)))
    (l_sign : K.lookup f_sign = some ⟨oc_sign, od_sign, .func (PySem.W.fnOf "_law_sign" "_law_sign" (defArgs s_sign) (defBody s_sign) (defScope s_sign) .none kV_sign dc_sign pm_sign an_sign cd_sign ct_sign), sl_sign⟩)
    (c_sign : PySem.W.codeIn K cd_sign "_law_sign" = true) (k_sign : PySem.W.keepIn K (.ref f_sign) = true)
    (a_great : PySem.W.nsIn K mainGlobals "_law_great" = some (some (.ref f_great)))
    (l_great : K.lookup f_great = some ⟨oc_great, od_great, .func (PySem.W.fnOf "_law_great" "_law_great" (defArgs s_great) (defBody s_great) (defScope s_great) .none kV_great dc_great pm_great an_great cd_great ct_great), sl_great⟩)
    (c_great : PySem.W.codeIn K cd_great "_law_great" = true) (k_great : PySem.W.keepIn K (.ref f_great) = true)
    (a_law : PySem.W.nsIn K mainGlobals "law" = some (some (.ref f_law)))
    (l_law : K.lookup f_law = some ⟨oc_law, od_law, .func (PySem.W.fnOf "law" "law" (defArgs s_law) (defBody s_law) (defScope s_law) .none kV_law dc_law pm_law an_law cd_law ct_law), sl_law⟩)
    (c_law : PySem.W.codeIn K cd_law "law" = true) (k_law : PySem.W.keepIn K (.ref f_law) = true)
    (z_abs : PySem.W.nsIn K mainGlobals "abs" = some none)
    (z_int : PySem.W.nsIn K mainGlobals "int" = some none)
    (z_len : PySem.W.nsIn K mainGlobals "len" = some none)
    (z_list : PySem.W.nsIn K mainGlobals "list" = some none)
    (z_max : PySem.W.nsIn K mainGlobals "max" = some none)
    (z_min : PySem.W.nsIn K mainGlobals "min" = some none)
    (z_range : PySem.W.nsIn K mainGlobals "range" = some none)
    (z_repr : PySem.W.nsIn K mainGlobals "repr" = some none)
    (z_str : PySem.W.nsIn K mainGlobals "str" = some none)
    (z_sum : PySem.W.nsIn K mainGlobals "sum" = some none)
    : ∃ fd : FuncData, (∀ (s : Shared) (v : Value), BindsTo s fd ⟨[v], []⟩ [("_law_script", v)]) ∧ ∀ base : Heap, K.In base → base.Ns mainGlobals mg → FnG l.prog w K mg base 5 fa fd ["_law_script"] (spLaw K) := by
  have e := hfa.symm.trans (PySem.W.mg_of X G a_law)
  cases e
  let T : Tp K mg := {
    a_least := f_least, d_least := _, F_least := fun_mk (st := s_least) l_least c_least k_least, g_least := PySem.W.mg_of X G a_least,
    a_shortest := f_shortest, d_shortest := _, F_shortest := fun_mk (st := s_shortest) l_shortest c_shortest k_shortest, g_shortest := PySem.W.mg_of X G a_shortest,
    a_alike := f_alike, d_alike := _, F_alike := fun_mk (st := s_alike) l_alike c_alike k_alike, g_alike := PySem.W.mg_of X G a_alike,
    a_has := f_has, d_has := _, F_has := fun_mk (st := s_has) l_has c_has k_has, g_has := PySem.W.mg_of X G a_has,
    a_signs := f_signs, d_signs := _, F_signs := fun_mk (st := s_signs) l_signs c_signs k_signs, g_signs := PySem.W.mg_of X G a_signs,
    a_well := f_well, d_well := _, F_well := fun_mk (st := s_well) l_well c_well k_well, g_well := PySem.W.mg_of X G a_well,
    a_draw := f_draw, d_draw := _, F_draw := fun_mk (st := s_draw) l_draw c_draw k_draw, g_draw := PySem.W.mg_of X G a_draw,
    a_pick := f_pick, d_pick := _, F_pick := fun_mk (st := s_pick) l_pick c_pick k_pick, g_pick := PySem.W.mg_of X G a_pick,
    a_far := f_far, d_far := _, F_far := fun_mk (st := s_far) l_far c_far k_far, g_far := PySem.W.mg_of X G a_far,
    a_bits := f_bits, d_bits := _, F_bits := fun_mk (st := s_bits) l_bits c_bits k_bits, g_bits := PySem.W.mg_of X G a_bits,
    a_word := f_word, d_word := _, F_word := fun_mk (st := s_word) l_word c_word k_word, g_word := PySem.W.mg_of X G a_word,
    a_table := f_table, d_table := _, F_table := fun_mk (st := s_table) l_table c_table k_table, g_table := PySem.W.mg_of X G a_table,
    a_lleast := f_lleast, d_lleast := _, F_lleast := fun_mk (st := s_lleast) l_lleast c_lleast k_lleast, g_lleast := PySem.W.mg_of X G a_lleast,
    a_row := f_row, d_row := _, F_row := fun_mk (st := s_row) l_row c_row k_row, g_row := PySem.W.mg_of X G a_row,
    a_sign := f_sign, d_sign := _, F_sign := fun_mk (st := s_sign) l_sign c_sign k_sign, g_sign := PySem.W.mg_of X G a_sign,
    a_great := f_great, d_great := _, F_great := fun_mk (st := s_great) l_great c_great k_great, g_great := PySem.W.mg_of X G a_great,
    a_law := fa, d_law := _, F_law := fun_mk (st := s_law) l_law c_law k_law, g_law := PySem.W.mg_of X G a_law,
    n_abs := PySem.W.mg_none_of X G z_abs,
    n_int := PySem.W.mg_none_of X G z_int,
    n_len := PySem.W.mg_none_of X G z_len,
    n_list := PySem.W.mg_none_of X G z_list,
    n_max := PySem.W.mg_none_of X G z_max,
    n_min := PySem.W.mg_none_of X G z_min,
    n_range := PySem.W.mg_none_of X G z_range,
    n_repr := PySem.W.mg_none_of X G z_repr,
    n_str := PySem.W.mg_none_of X G z_str,
    n_sum := PySem.W.mg_none_of X G z_sum }
  exact ⟨T.d_law, fun s v => .of_eq rfl, fun base _ _ => ok_law T⟩
end G3
open PySem PySem.W PyProof.Rows
set_option maxHeartbeats 0 in
theorem PySem.Challenge.cw_leastmakers_k03_signs_near_and_far_holds : PySem.Challenge.rw_leastmakers_k03_signs_near_and_far.Holds := by
  w_on; o_law; k_head; (case hw => w_witness2)
  k_fill
  refine G1.walkG (l := PySem.Challenge.rw_leastmakers_k03_signs_near_and_far) (n := 63) (k := 5) (x := "_law_script") (sp := fun K => G3.spLaw K) rfl (by decide) rfl ⟨rfl, by decide, by decide⟩ (fun w h Y => PySem.W.kIn_of Y) ?F (fun K H a ns hl _ hS => ⟨a, ns, rfl, hS, hl, fun _ => rfl⟩)
  case F =>
    intro w mg fa h KX G hmg
    refine' G3.all_mk KX G hmg ?a_least ?l_least ?c_least ?k_least ?a_shortest ?l_shortest ?c_shortest ?k_shortest ?a_alike ?l_alike ?c_alike ?k_alike ?a_has ?l_has ?c_has ?k_has ?a_signs ?l_signs ?c_signs ?k_signs ?a_well ?l_well ?c_well ?k_well ?a_draw ?l_draw ?c_draw ?k_draw ?a_pick ?l_pick ?c_pick ?k_pick ?a_far ?l_far ?c_far ?k_far ?a_bits ?l_bits ?c_bits ?k_bits ?a_word ?l_word ?c_word ?k_word ?a_table ?l_table ?c_table ?k_table ?a_lleast ?l_lleast ?c_lleast ?k_lleast ?a_row ?l_row ?c_row ?k_row ?a_sign ?l_sign ?c_sign ?k_sign ?a_great ?l_great ?c_great ?k_great ?a_law ?l_law ?c_law ?k_law ?z_abs ?z_int ?z_len ?z_list ?z_max ?z_min ?z_range ?z_repr ?z_str ?z_sum
    (case a_least => k_is); (case l_least => k_is); (case c_least => k_is); (case k_least => k_is); (case a_shortest => k_is); (case l_shortest => k_is)
    (case c_shortest => k_is); (case k_shortest => k_is); (case a_alike => k_is); (case l_alike => k_is); (case c_alike => k_is); (case k_alike => k_is)
    (case a_has => k_is); (case l_has => k_is); (case c_has => k_is); (case k_has => k_is); (case a_signs => k_is); (case l_signs => k_is)
    (case c_signs => k_is); (case k_signs => k_is); (case a_well => k_is); (case l_well => k_is); (case c_well => k_is); (case k_well => k_is)
    (case a_draw => k_is); (case l_draw => k_is); (case c_draw => k_is); (case k_draw => k_is); (case a_pick => k_is); (case l_pick => k_is)
    (case c_pick => k_is); (case k_pick => k_is); (case a_far => k_is); (case l_far => k_is); (case c_far => k_is); (case k_far => k_is)
    (case a_bits => k_is); (case l_bits => k_is); (case c_bits => k_is); (case k_bits => k_is); (case a_word => k_is); (case l_word => k_is)
    (case c_word => k_is); (case k_word => k_is); (case a_table => k_is); (case l_table => k_is); (case c_table => k_is); (case k_table => k_is)
    (case a_lleast => k_is); (case l_lleast => k_is); (case c_lleast => k_is); (case k_lleast => k_is); (case a_row => k_is); (case l_row => k_is)
    (case c_row => k_is); (case k_row => k_is); (case a_sign => k_is); (case l_sign => k_is); (case c_sign => k_is); (case k_sign => k_is)
    (case a_great => k_is); (case l_great => k_is); (case c_great => k_is); (case k_great => k_is); (case a_law => k_is); (case l_law => k_is)
    (case c_law => k_is); (case k_law => k_is); (case z_abs => k_is); (case z_int => k_is); (case z_len => k_is); (case z_list => k_is)
    (case z_max => k_is); (case z_min => k_is); (case z_range => k_is); (case z_repr => k_is); (case z_str => k_is); (case z_sum => k_is)
