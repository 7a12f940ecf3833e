import PyProof.Rows.All
import Wide.All
import OpenK.AllK
import Wide.FinOn
import HandS.ForMost
import HandS.StrMore
import HandS.Wide
import HandS.IsInst
import HandS.Codes
import HandS.Conv
import HandS.Style
import HandS.Ends
import KE.GoesNew
import KE.KDictZip
import KE.GoesZip
import HandS.NoneIn
import PySem.Challenge.RW_leastmakers_k04_where_tables_part
set_option Elab.async false
set_option linter.all false
set_option maxRecDepth 100000
set_option maxHeartbeats 8000000
/-! repr of whole data, and promises of defs that call it -/
namespace G1
open PySem PySem.Spec PyProof.Rows L2

/-- a promise of a def where no repr is under way around the call -/
structure FnG (P : Program) (w : World) (K : PySem.W.Frag) (mg : Str → Option Value) (base : Heap) (k : Nat) (f : Addr) (fd : FuncData) (ps : List Str) (sp : Sp) : Prop where
  cnt : ∀ vs H Q E, sp vs H Q E → vs.length = ps.length
  go : ∀ (A : Around) (ou : List Env) (s : Shared) (H : Hp) (ar : Args) (us : List Value) (vs : List V) (Q : VK) (E : XK), A.guards = some [] → Room k A →
    Env0 P w K mg base A ou s H → BindsTo s fd ar (ps.zip us) → Vals vs us → sp vs H Q E →
    codeAny (model P w) A (.call (.ref f) ar) (CR CX0 ou P w H s Q E) s

theorem FnG.of {P : Program} {w : World} {K : PySem.W.Frag} {mg : Str → Option Value} {base : Heap} {k : Nat} {f : Addr} {fd : FuncData} {ps : List Str} {sp : Sp}
    (F : FnOk P w K mg base CX0 k f fd ps sp) : FnG P w K mg base k f fd ps sp :=
  ⟨F.len, fun A ou s H ar us vs Q E _ hr he hb hv hs => F.run A ou s H ar us vs Q E hr he hb hv hs⟩

section
variable {P : Program} {w : World} {K : PySem.W.Frag} {mg : Str → Option Value} {base : Heap}
theorem fnG_of {x qual : Str} {st : Stmt} {f : Addr} {fd : FuncData} {N ps : List Str} {k : Nat} {sp : Sp} (F : Fun K x qual st f fd) (S : FnScope N ps (defScope st))
    (cnt : ∀ vs H Q E, sp vs H Q E → vs.length = ps.length)
    (body : ∀ (cdv : Value) (A : Around) (ou : List Env) (s : Shared) (H : Hp) (vs : List V) (Q : VK) (E : XK), A.guards = some [] →
      Room k (A.deeper (envOfC qual (defScope st) s.heap.objs.size f cdv)) → sp vs H Q E →
      ∃ t, PSs (cxOf CX0 P w K mg base N qual (defScope st) f cdv A ou s H E).nox (defBody st) t ∧
        t { nx := fun _ H' => Q .non H', rt := Q } (start N vs) H) :
    FnG P w K mg base (k + 1) f fd ps sp := by
  obtain ⟨oc, od, kV, doc, pm, an, cdv, ct, osl, rfl, lk, hcd⟩ := F.ex
  refine ⟨cnt, fun A ou s H ar us vs Q E hgd hr e0 hb rv hsp => ?_⟩
  have inK : K.In s.heap := e0.mod.kin.keeps fun b o e => (e0.bs b o e).1
  have hlim : s.heap.NoLimit := e0.mod.nolimit.keeps fun b o e => (e0.bs b o e).1
  have kinds : ∀ y ∈ ps.zip us, (defScope st).names.lookup y.1 = some .local ∨
      ((defScope st).names.lookup y.1 = some .cell ∧ ((cellsFrom (s.heap.objs.size + 1) (defScope st).names []).lookup y.1).isSome = true) := by
    intro y hy
    cases S.par y.1 (List.of_mem_zip hy).1 with
    | inl q => exact Or.inl q
    | inr q => exact Or.inr ⟨q, PySem.W.cellsFrom_some _ _ _ (Or.inl q)⟩
  refine codeAny_call_function hr.depth (inK _ _ lk) rfl S.co S.gen rfl (PySem.W.codeRec_of inK hcd) (hb _ _ _ _ ?_)
  refine wpAny_newFunctionEnv_cells S.kind kinds fun env he s1 x => ?_
  subst he
  refine And.intro (hlim.keeps x.toInCall.keep) (codeAny_func ?_)
  obtain ⟨t, ht0, hq⟩ := body cdv A ou s H vs Q E hgd (hr.deeper _) hsp
  have ht := ht0.nox
  have J0 := inv_start (CX := CX0) S hr.hd e0 (cnt _ _ _ _ hsp) rv x (E := E)
  refine wpAny_mono (ht.run [] s1 (start N vs) H _ J0 hq) ?_ (fun e s' hs => hs)
  intro fl s' hs
  cases fl with
  | ret u =>
    obtain ⟨v, σ', H', J, r1, q⟩ := hs
    exact ⟨v, H', J.os, J.bare, J.base, J.hok, r1, q⟩
  | next =>
    obtain ⟨σ', H', J, q⟩ := hs
    exact ⟨V.non, H', J.os, J.bare, J.base, J.hok, rfl, q⟩
  | brk => exact hs.choose_spec.choose_spec.2.elim
  | cont => exact hs.choose_spec.choose_spec.2.elim
end

section
variable {X : Cx} {k : Nat} {f : Addr} {fd : FuncData} {ps ks : List Str} {sp : Sp} {dvs : List V} {ds : List Value} {E : XK} {x : Str} {p pos : Pos} {e : Expr} {es : List Expr} {t : TA}
/-- f(e, ..) of such a def -/
theorem pe_callGd (F : FnG X.prog X.w X.K X.mg X.base k f fd ps sp) (hgd : X.A.guards = some []) (hr : Room k X.A) (hg : Gl X x) (hm : X.mg x = some (.ref f)) (hk : PySem.W.keepIn X.K (.ref f) = true)
    (hb : Binds X.K fd ps []) (ha : PA X (e :: es) t) (hdb : (x == ("__debug__" : Str)) = false := by decide)
    (he : starEach (e :: es) X.env = (false, eval e X.env) :: starEach es X.env := by rfl) (hpl : (backTo pos (starEach es X.env)).any (·.1) = false := by rfl) :
    PE X (.Call (.Name x p) (e :: es) [] pos) (fun σ H Q => t σ H fun vs H1 => sp vs H1 Q E) := by
  refine ⟨fun pins s σ H Q I h => wpAny_Call_Name_kw (ld_glob I hg hm ?_ hdb)⟩
  refine PySem.W.callWith_K (h₀ := X.base) I.ok.mod.kin hk (thn (ha.run pos pins s σ H _ I h) ?_) he hpl
  intro us s1 hus
  obtain ⟨vs, H1, I1, r, q⟩ := hus
  refine ⟨I1.kIn, ?_⟩
  have hl : (us ++ []).length = ps.length := by rw [List.append_nil, ← r.length]; exact F.cnt _ _ _ _ q
  have hbt := hb s1 us I1.kIn hl
  rw [List.append_nil] at hbt
  refine wpAny_call (codeAny_mono (F.go X.A X.stack s1 H1 ⟨us, []⟩ us vs Q E hgd hr I1.env0 hbt r q) ?_)
  intro rr s' hq
  cases rr with
  | error ev => exact hq.elim
  | ok fl =>
    cases fl with
    | ret u => exact I1.after hq
    | next => exact hq.elim
    | brk => exact hq.elim
    | cont => exact hq.elim

/-- repr of a list or a tuple of plain data -/
def rRepr (K : PySem.W.Frag) : List V → Hp → VK → Prop := fun xs H Q => ∃ (a : Addr) (d : PyData), xs = [.ref a] ∧ Dp K H (.ref a) d ∧ d.showable = true ∧ d.hasDict = false ∧ d.depth ≤ 60 ∧
  d.shown.length ≤ sizeLine ∧ Q (.str d.shown) H
theorem call_reprD (hgd : X.A.guards = some []) (hu : X.A.units + 64 < cLine) : CallR X (.builtin "repr") (rRepr X.K) := by
  intro pins s σ H xs us Q I r h
  obtain ⟨a, d, rfl, hd, hs, hnd, hdp, hz, q⟩ := h
  obtain ⟨u, rfl, ru⟩ := vals1 r
  obtain rfl : u = Value.ref a := ru
  obtain ⟨as, r1⟩ := Dp.reads I d (.ref a) (.ref a) hd rfl
  refine repr_of_reads' r1 hs (fun z => by rw [hnd] at z; cases z) hgd (by omega) (fun _ _ e => e) (fun h' tu tk hk => ?_) hz
  refine ⟨.str d.shown, H, ?_, ⟨tu, rfl⟩, q⟩
  exact I.kept (t' := tk) hk
/-- x * n of a text -/
def rMulS : R2 := fun x y H Q => ∃ (z : Str) (n : Int), x = .str z ∧ y = .int n ∧ 0 ≤ n ∧ n < 2 ^ 30 ∧ z.length * n.toNat ≤ 1000000 ∧ Q (.str (Txt.mul z n)) H
end
end G1
/-! the end of a row whose law calls repr -/
namespace G1
open PySem PySem.Spec PyProof.Rows L2

theorem enterG {P : Program} {w : World} {K : PySem.W.Frag} {mg mb : Str → Option Value} {k : Nat} {fa a : Addr} {fd : FuncData} {x : Str} {sp : Sp} {s₁ : Shared} {vs : List Value} {ns : List Int}
    (inK : K.In s₁.heap) (hns : s₁.heap.Ns mainGlobals mg) (hbn : s₁.heap.Ns builtinsNs mb) (hbb : ∀ x : Str, x ≠ "__name__" → mb x = bootBuiltins x) (hlim : s₁.heap.NoLimit) (hg0 : s₁.gens = #[])
    (ha : s₁.heap.get? a = some { cls := .type "list", data := .seq vs.toArray }) (hi : IntsAre vs ns) (hl : ns.length ≤ sizeLine) (hr : Room k callerA)
    (F : ∀ base : Heap, K.In base → base.Ns mainGlobals mg → FnG P w K mg base k fa fd [x] sp)
    (hbind : ∀ (s : Shared) (u : Value), BindsTo s fd ⟨[u], []⟩ [(x, u)])
    (hsp : ∀ H : Hp, Only H → SqL K H a (ns.map V.int) → sp [.ref a] H (fun v _ => v = .bl true) fun _ _ _ => False) :
    codeAny (model P w) callerA (.call (.ref fa) ⟨[.ref a], []⟩)
      (fun r s' => r = .ok (.ret (.bool true)) ∧ OldK s₁.heap s'.heap ∧ s'.os = s₁.os ∧ AllBare s'.gens) s₁ := by
  have rv := vals_ints hi
  have lv := hi.length
  suffices core : ∀ H : Hp, Only H → SqL K H a (ns.map V.int) → HOk P w H s₁.heap → (∀ b, H b ≠ none → b = a ∧ K.lookup a = none) →
      codeAny (model P w) callerA (.call (.ref fa) ⟨[.ref a], []⟩)
        (fun r s' => r = .ok (.ret (.bool true)) ∧ OldK s₁.heap s'.heap ∧ s'.os = s₁.os ∧ AllBare s'.gens) s₁ by
    by_cases hk : K.lookup a = none
    · refine core (fun b => if b = a then some (.frz { cls := .type "list", data := .seq vs.toArray } (.lst (ns.map V.int))) else none) ?_ (Or.inl (Or.inr ⟨_, if_pos rfl⟩)) ?_ ?_
      · intro b
        by_cases hb : b = a
        · exact Or.inr ⟨_, _, if_pos hb⟩
        · exact Or.inl (if_neg hb)
      · intro b u z
        dsimp only at z
        by_cases hb : b = a
        · rw [if_pos hb] at z
          cases z
          subst hb
          exact ⟨ha, by rw [List.length_map]; exact hl, vs, _, rv, ha⟩
        · rw [if_neg hb] at z
          cases z
      · intro b z
        by_cases hb : b = a
        · exact ⟨hb, hk⟩
        · exact absurd (if_neg hb) z
    · obtain ⟨o, ho⟩ := Option.ne_none_iff_exists'.mp hk
      have e := inK a o ho
      rw [ha] at e
      cases e
      exact core (fun _ => none) (fun _ => Or.inl rfl) (Or.inr ⟨_, vs.toArray, _, ho, rfl, rfl, rfl, by rw [List.size_toArray, lv]; exact hl, by simpa using rv⟩)
        (fun b u z => by cases z) (fun b z => absurd rfl z)
  intro H hO hS hok hA
  have untr : ∀ {b : Addr} {o : Obj} {es : Array DictEntry} {ep : Nat}, s₁.heap.get? b = some o → o.data = .dict es ep → H b = none := by
    intro b o es ep e d
    by_cases q : H b = none
    · exact q
    · obtain ⟨rfl, _⟩ := hA b q
      rw [ha] at e
      cases e
      exact nomatch d
  have tohid : ∀ {b : Addr} {m : Str → Option Value}, s₁.heap.Ns b m → (hidT s₁.heap H).Ns b m := by
    rintro b m ⟨o, es, ep, e, d, r⟩
    exact ⟨o, es, ep, hidT_get e (untr e d), d, r⟩
  have hKb : K.In (hidT s₁.heap H) := by
    intro b o e
    refine hidT_get (inK b o e) ?_
    by_cases q : H b = none
    · exact q
    · obtain ⟨rfl, z⟩ := hA b q
      rw [z] at e
      cases e
  obtain ⟨mc, l1, l2⟩ := hlim
  have hM : Mod K mg (hidT s₁.heap H) := ⟨hKb, tohid hns, ⟨mb, tohid hbn, hbb⟩, ⟨mc, tohid l1, l2⟩⟩
  have e0 : Env0 P w K mg (hidT s₁.heap H) callerA [] s₁ H :=
    ⟨rfl, hM, fun b o e => of_hidT e, Nat.le_of_eq (hidT_size _ _), trivial, fun b hb => (List.not_mem_nil hb).elim, hok, .of_eq hg0⟩
  refine codeAny_mono ((F _ hKb (tohid hns)).go callerA [] s₁ H ⟨[.ref a], []⟩ [.ref a] [.ref a] _ _ rfl hr e0 (hbind s₁ (.ref a)) (.cons rfl .nil) (hsp H hO hS)) ?_
  intro r s' h
  cases r with
  | error e => exact h.elim
  | ok fl =>
    cases fl with
    | next => exact h.elim
    | brk => exact h.elim
    | cont => exact h.elim
    | ret u =>
      obtain ⟨v, H', os, bare, un, hok', r', q⟩ := h
      subst q
      obtain rfl : u = Value.bool true := r'
      refine ⟨rfl, OldK.of_keep (fun b o e => ?_), os, bare⟩
      rcases hO b with z | ⟨ob, xs, z⟩
      · exact un.keep b o e z (fun y => (List.not_mem_nil y).elim) List.not_mem_nil
      · obtain ⟨e1, _⟩ := hok b _ z
        obtain ⟨e2, _⟩ := hok' b _ (un.frzs b ob _ z)
        rw [e] at e1
        cases e1
        exact e2

theorem walkG {l : PySem.W.OpenLaw} {n k : Nat} {q : Program} {loose : List Str} {XP : (Str → Option Value) → Heap → Prop} {YP : World → Heap → Prop} {d : DefRec} {K : Params → PySem.W.Frag} {sp : PySem.W.Frag → Sp} {x : Str}
    (hn : l.most = some n) (hn2 : n ≤ sizeLine) (hdf : d.params.defaults = []) (hr : Room k callerA)
    (hY : ∀ (w : World) (h : Heap), YP w h → (K w.params).In h)
    (F : ∀ (w : World) (mg : Str → Option Value) (fa : Addr) (h : Heap), (K w.params).In h → h.Ns mainGlobals mg → mg d.name = some (.ref fa) →
      ∃ fd : FuncData, (∀ (s : Shared) (u : Value), BindsTo s fd ⟨[u], []⟩ [(x, u)]) ∧
        ∀ base : Heap, (K w.params).In base → base.Ns mainGlobals mg → FnG l.prog w (K w.params) mg base k fa fd [x] (sp (K w.params)))
    (hsp : ∀ (K : PySem.W.Frag) (H : Hp) (a : Addr) (ns : List Int), ns.length ≤ n → Only H → SqL K H a (ns.map V.int) → sp K [.ref a] H (fun v _ => v = .bl true) fun _ _ _ => False) :
    PySem.W.WalkO q loose XP YP l.row.toRowW d [] (fun f vs => PySem.call f vs) := by
  refine Att.attach_call hn hdf ?_
  intro w s₀ s₁ mg mb fa o pm cd doc a vs ns G Y ho hd hcd hmg hobj hints hlen hg0
  have inK := hY w _ Y
  obtain ⟨fd, hb, hF⟩ := F w mg fa _ inK G.T.g hmg
  exact enterG inK G.T.g G.T.b G.T.builtins G.T.nolimit hg0 hobj hints (Nat.le_trans hlen hn2) hr hF hb (fun H hO hS => hsp _ H a ns hlen hO hS)
end G1
/-! texts of the signs 0 and 1, as lists of bools -/
namespace G1
open PySem PySem.Spec PyProof.Rows L2

def cB (b : Bool) : Nat := if b then 49 else 48
def B (l : List Bool) : Str := SX.S (l.map cB)
theorem cB_inj {a b : Bool} (h : cB a = cB b) : a = b := by
  cases a <;> cases b <;> first | rfl | (exact absurd h (by decide))
theorem map_cB_inj : ∀ {l m : List Bool}, l.map cB = m.map cB → l = m
  | [], [], _ => rfl
  | [], _ :: _, h => by cases h
  | _ :: _, [], h => by cases h
  | a :: l, b :: m, h => by
    rw [List.map_cons, List.map_cons] at h
    injection h with h1 h2
    rw [cB_inj h1, map_cB_inj h2]
theorem B_inj {l m : List Bool} (h : B l = B m) : l = m := map_cB_inj (SX.S_inj h)
theorem B_dec (l m : List Bool) : decide (V.str (B l) = V.str (B m)) = decide (l = m) := by
  by_cases h : l = m
  · rw [h, decide_eq_true rfl, decide_eq_true rfl]
  · rw [decide_eq_false h, decide_eq_false fun e => h (B_inj (V.str.inj e))]
theorem B_len (l : List Bool) : (B l).length = l.length := by
  unfold B
  rw [SX.S_len, List.length_map]
theorem B_cps (l : List Bool) : (B l).cps.toList = l.map cB := rfl
theorem B_app (l m : List Bool) : B l ++ B m = B (l ++ m) := by
  unfold B
  rw [SX.S_cat, List.map_append]
theorem B_nil : ("" : Str) = B [] := by decide +kernel
theorem B_0 : ("0" : Str) = B [false] := by decide +kernel
theorem B_1 : ("1" : Str) = B [true] := by decide +kernel
theorem B_one (b : Bool) : (⟨#[cB b]⟩ : Str) = B [b] := by cases b <;> decide +kernel
theorem B_str0 : (Str.ofString (toString (0 : Int))) = B [false] := by decide +kernel
theorem B_str1 : (Str.ofString (toString (1 : Int))) = B [true] := by decide +kernel
theorem B_str (i : Int) (h0 : 0 ≤ i) (h2 : i < 2) : (Str.ofString (toString i)) = B [decide (i = 1)] := by
  have h : i = 0 ∨ i = 1 := by omega
  rcases h with rfl | rfl
  · exact B_str0
  · exact B_str1

/-! ### slices -/
theorem B_cut (l : List Bool) (lo hi : Option Int) : cutS (B l) lo hi = B ((l.drop (HT.sIx l.length 0 lo)).take (HT.sIx l.length l.length hi - HT.sIx l.length 0 lo)) := by
  unfold cutS B
  rw [SX.S_len, List.length_map, ← List.map_drop, ← List.map_take]
theorem sIx_of (n d : Nat) {i : Int} (h : 0 ≤ i) : HT.sIx n d (some i) = min i.toNat n := by
  show (if i < 0 then (i + (n : Int)).toNat else min i.toNat n) = _
  rw [if_neg (by omega)]
theorem B_to (l : List Bool) {j : Int} (h : 0 ≤ j) : cutS (B l) none (some j) = B (l.take j.toNat) := by
  rw [B_cut, sIx_of _ _ h]
  show B ((l.drop 0).take (min j.toNat l.length - 0)) = _
  rw [List.drop_zero, Nat.sub_zero, ← List.take_eq_take_min]
theorem B_from (l : List Bool) {i : Int} (h : 0 ≤ i) : cutS (B l) (some i) none = B (l.drop i.toNat) := by
  rw [B_cut, sIx_of _ _ h]
  show B ((l.drop (min i.toNat l.length)).take (l.length - min i.toNat l.length)) = _
  rw [List.take_of_length_le (by rw [List.length_drop]; omega)]
  by_cases hi : i.toNat ≤ l.length
  · rw [Nat.min_eq_left hi]
  · rw [Nat.min_eq_right (by omega), List.drop_length, List.drop_of_length_le (by omega)]
theorem B_mid (l : List Bool) {i j : Int} (h : 0 ≤ i) (hj : 0 ≤ j) : cutS (B l) (some i) (some j) = B ((l.take j.toNat).drop i.toNat) := by
  rw [B_cut, sIx_of _ _ h, sIx_of _ _ hj]
  congr 1
  apply List.ext_getElem?
  intro k
  rw [List.getElem?_take, List.getElem?_drop, List.getElem?_drop, List.getElem?_take]
  by_cases hi : i.toNat ≤ l.length
  · rw [Nat.min_eq_left hi]
    by_cases hj2 : j.toNat ≤ l.length
    · rw [Nat.min_eq_left hj2]
      by_cases h3 : k < j.toNat - i.toNat
      · rw [if_pos h3, if_pos (by omega)]
      · rw [if_neg h3, if_neg (by omega)]
    · rw [Nat.min_eq_right (by omega)]
      by_cases h3 : k < l.length - i.toNat
      · rw [if_pos h3, if_pos (by omega)]
      · rw [if_neg h3]
        split
        · exact (List.getElem?_eq_none (by omega)).symm
        · rfl
  · have hm : min i.toNat l.length = l.length := Nat.min_eq_right (Nat.le_of_lt (Nat.lt_of_not_le hi))
    rw [hm, List.getElem?_eq_none (by omega), List.getElem?_eq_none (by omega)]
    split <;> split <;> rfl

/-! ### signs -/
theorem B_at (l : List Bool) {i : Int} {k : Nat} {b : Bool} (hi : i = (k : Int)) (h : l[k]? = some b) : atI (B l).cps.toList i = some (cB b) := by
  subst hi
  refine atI_nat ?_
  rw [B_cps, List.getElem?_map, h]
  rfl
theorem B_atNeg (l : List Bool) {i : Int} {k : Nat} {b : Bool} (hi : i = -1 - (k : Int)) (hk : k < l.length) (h : l[l.length - 1 - k]? = some b) : atI (B l).cps.toList i = some (cB b) := by
  unfold atI ixN
  have e1 : (B l).cps.toList.length = l.length := by rw [B_cps, List.length_map]
  rw [e1, if_neg (by omega), if_pos (by omega)]
  show (B l).cps.toList[(i + (l.length : Int)).toNat]? = _
  rw [show (i + (l.length : Int)).toNat = l.length - 1 - k by omega, B_cps, List.getElem?_map, h]
  rfl

/-! ### many times -/
def rep (n : Nat) (l : List Bool) : List Bool := (List.replicate n l).flatten
theorem rep_zero (l : List Bool) : rep 0 l = [] := rfl
theorem rep_succ (n : Nat) (l : List Bool) : rep (n + 1) l = l ++ rep n l := by
  unfold rep
  rw [List.replicate_succ, List.flatten_cons]
theorem rep_length (n : Nat) (l : List Bool) : (rep n l).length = n * l.length := by
  induction n with
  | zero => rw [rep_zero, Nat.zero_mul]; rfl
  | succ n ih => rw [rep_succ, List.length_append, ih, Nat.succ_mul, Nat.add_comm]
theorem rep_get (n : Nat) (l : List Bool) (i : Nat) (h : i < n * l.length) : (rep n l)[i]? = l[i % l.length]? := by
  induction n generalizing i with
  | zero => rw [Nat.zero_mul] at h; omega
  | succ n ih =>
    rw [rep_succ]
    by_cases hi : i < l.length
    · rw [List.getElem?_append_left hi, Nat.mod_eq_of_lt hi]
    · have h1 : l.length ≤ i := by omega
      rw [List.getElem?_append_right h1, ih (i - l.length) (by rw [Nat.succ_mul] at h; omega), ← Nat.mod_eq_sub_mod h1]
theorem foldl_app (c : Array Nat) : ∀ (n : Nat) (acc : Array Nat), ((List.replicate n c).foldl (· ++ ·) acc).toList = acc.toList ++ (List.replicate n c.toList).flatten
  | 0, acc => by simp
  | n + 1, acc => by
    rw [List.replicate_succ, List.foldl_cons, foldl_app c n, List.replicate_succ, List.flatten_cons, Array.toList_append, List.append_assoc]
theorem map_rep (n : Nat) (l : List Bool) : (rep n l).map cB = (List.replicate n (l.map cB)).flatten := by
  induction n with
  | zero => rfl
  | succ n ih => rw [rep_succ, List.map_append, ih, List.replicate_succ, List.flatten_cons]
theorem B_mul (l : List Bool) {n : Int} (h : 0 ≤ n) : Txt.mul (B l) n = B (rep n.toNat l) := by
  unfold Txt.mul
  by_cases h1 : n < 1
  · rw [if_pos h1, show n.toNat = 0 by omega, rep_zero]
    rfl
  · rw [if_neg h1]
    by_cases h2 : (n == 1 || (B l).length == 0) = true
    · rw [if_pos h2]
      rw [Bool.or_eq_true, beq_iff_eq, beq_iff_eq, B_len] at h2
      rcases h2 with h2 | h2
      · subst h2
        show B l = B (rep 1 l)
        rw [rep_succ, rep_zero, List.append_nil]
      · rw [List.length_eq_zero_iff] at h2
        subst h2
        congr 1
        have := rep_length n.toNat []
        rw [List.length_nil, Nat.mul_zero, List.length_eq_zero_iff] at this
        exact this.symm
    · rw [if_neg h2]
      unfold B
      rw [map_rep]
      refine TL.ext_tl ?_
      show (List.foldl (· ++ ·) #[] (List.replicate n.toNat (SX.S (l.map cB)).cps)).toList = _
      rw [foldl_app]
      simp [TL.tl]

/-! ### joined -/
theorem join_nil (ls : List (List Bool)) : Txt.join (B []) (ls.map B) = B ls.flatten := by
  have e : ls.map B = (ls.map (List.map cB)).map SX.S := by rw [List.map_map]; rfl
  rw [e]
  show Txt.join (SX.S []) _ = _
  rw [SX.join_S]
  unfold B
  congr 1
  have key : ∀ ms : List (List Nat), TL.joinL [] ms = ms.flatten := by
    intro ms
    induction ms with
    | nil => rfl
    | cons m ms ih =>
      cases ms with
      | nil => simp [TL.joinL]
      | cons k ks =>
        rw [List.flatten_cons, ← ih]
        simp [TL.joinL]
  rw [key, ← List.map_flatten]
end G1
namespace G1
open PySem PySem.Spec PyProof.Rows L2
section
variable {X : Cx}
theorem tooLong_no {n : Nat} (h : n ≤ 1000000) : Builtin.Str.tooLong n = false := by
  unfold Builtin.Str.tooLong
  rw [decide_eq_false_iff_not]
  exact Nat.not_lt.mpr (Nat.le_trans h (by decide))
theorem op_mulS : OpR X (binaryOp .Mult) rMulS := by
  intro pins s σ H x y v u Q I rx ry h
  obtain ⟨z, n, rfl, rfl, h0, h1, h2, q⟩ := h
  obtain ⟨t, rfl⟩ := rx
  obtain ⟨t2, rfl⟩ := ry
  have hb : z.length = 0 ∨ n.toNat = 0 ∨ (z.length ≤ 1000000) := by
    rcases Nat.eq_zero_or_pos z.length with e | e
    · exact .inl e
    · rcases Nat.eq_zero_or_pos n.toNat with e2 | e2
      · exact .inr (.inl e2)
      · refine .inr (.inr (Nat.le_trans ?_ h2))
        exact Nat.le_mul_of_pos_right _ e2
  refine PySem.SB.mul ⟨?_, fun a b c => ?_, fun a b => tooLong_no h2⟩ fun t' k => ⟨.str (Txt.mul z n), H, I.tok _, ⟨_, rfl⟩, q⟩
  · rw [Bool.or_eq_false_iff]
    exact ⟨decide_eq_false (by omega), decide_eq_false (by omega)⟩
  · rw [Bool.or_eq_false_iff] at b
    have hz : z.length ≠ 0 := by
      have := b.2
      simpa using this
    have hz2 : (z.length : Int) ≤ 1000000 := by omega
    have h3 : (2 ^ 63 - 1 : Int) / n ≥ 1000000 := by
      apply Int.le_ediv_of_mul_le (by omega)
      omega
    omega
end
theorem szM {n : Nat} (h : n ≤ 1000000) : n ≤ sizeLine := Nat.le_trans h (by decide)
end G1
namespace G1
open PySem PySem.Spec PyProof.Rows L2
theorem B_last (l : List Bool) : cutS (B l) (some (-1)) none = B (l.drop (l.length - 1)) := by
  rw [B_cut]
  have e : HT.sIx l.length 0 (some (-1)) = l.length - 1 := by
    show (if (-1 : Int) < 0 then (-1 + (l.length : Int)).toNat else min (-1 : Int).toNat l.length) = _
    rw [if_pos (by decide)]
    omega
  rw [e]
  show B ((l.drop (l.length - 1)).take (l.length - (l.length - 1))) = _
  rw [List.take_of_length_le (by rw [List.length_drop]; omega)]
theorem B_init (l : List Bool) : cutS (B l) none (some (-1)) = B (l.take (l.length - 1)) := by
  rw [B_cut]
  have e : HT.sIx l.length l.length (some (-1)) = l.length - 1 := by
    show (if (-1 : Int) < 0 then (-1 + (l.length : Int)).toNat else min (-1 : Int).toNat l.length) = _
    rw [if_pos (by decide)]
    omega
  rw [e]
  show B ((l.drop 0).take (l.length - 1 - 0)) = _
  rw [List.drop_zero, Nat.sub_zero]
end G1
/-! calls by keywords alone; repr of a truth -/
namespace G1
open PySem PySem.Spec PyProof.Rows L2
section
variable {X : Cx} {CX : CXT} {k : Nat} {f : Addr} {fd : FuncData} {ps ks : List Str} {sp : Sp} {E : XK} {x : Str} {p pos : Pos} {kws : List Keyword} {tk : TA}
variable {g : List Value → List Value → List Value} {gV : List V → List V → List V}
/-- f(k = v, ..) -/
theorem pe_callK0 (F : FnOk X.prog X.w X.K X.mg X.base CX k f fd ps sp) (hr : Room k X.A) (hg : Gl X x) (hm : X.mg x = some (.ref f)) (hk : PySem.W.keepIn X.K (.ref f) = true) (hb : KBinds X.K fd ps ks g gV) (hx : Passes CX X E)
    (hkw : PK X kws tk) (hall : (backToKw pos (keywordEach kws X.env)).all (·.1.isSome) = true := by rfl) (hks : (backToKw pos (keywordEach kws X.env)).filterMap (·.1) = ks := by rfl)
    (hdb : (x == ("__debug__" : Str)) = false := by decide)
    (hpl : ((backTo pos (starEach [] X.env)).any (·.1) || (backToKw pos (keywordEach kws X.env)).any (·.1.isNone)) = false := by rfl) :
    PE X (.Call (.Name x p) [] kws pos) (fun σ H Q => tk σ H fun zs H1 => sp (gV [] zs) H1 Q E) := by
  refine ⟨fun pins s σ H Q I h => wpAny_Call_Name_kw (ld_glob I hg hm ?_ hdb)⟩
  refine PySem.W.callWith_KW0 (h₀ := X.base) I.ok.mod.kin hk hall (thn (hkw.run pos pins s σ H _ I h) ?_) hpl
  intro ws s2 hws
  obtain ⟨zs, H2, I2, rz, q2⟩ := hws
  refine ⟨I2.kIn, ?_⟩
  rw [hks]
  exact run_fnk (us := []) (vs := []) F hr hb hx I2 .nil rz q2
end
/-- two keywords, the second parameter's first -/
def swapW {α : Type} : List α → List α → List α
  | [], a :: b :: _ => [b, a]
  | _, _ => []
theorem kbinds_swap {K : PySem.W.Frag} {fd : FuncData} {p0 p1 : Str}
    (h : ∀ a b : Value, bindArgs fd ⟨[], [(p1, a), (p0, b)]⟩ = pure [(p0, b), (p1, a)]) : KBinds K fd [p0, p1] [p1, p0] swapW swapW := by
  refine ⟨fun s us ws _ hl => ?_, fun {vs us zs ws} r1 r2 => ?_⟩
  · cases us with
    | cons u us => cases hl
    | nil =>
      cases ws with
      | nil => cases hl
      | cons a ws =>
        cases ws with
        | nil => cases hl
        | cons b ws => exact .of_eq (h a b)
  · cases r1 with
    | cons q t => exact .nil
    | nil =>
      cases r2 with
      | nil => exact .nil
      | cons q1 t1 =>
        cases t1 with
        | nil => exact .nil
        | cons q2 t2 => exact .cons q2 (.cons q1 .nil)
section
variable {X : Cx}
theorem call_reprB : CallR X (.builtin "repr") (fun xs H Q => ∃ b : Bool, xs = [.bl b] ∧ Q (.str (if b then "True" else "False")) H) := by
  intro pins s σ H xs us Q I r h
  obtain ⟨b, rfl, q⟩ := h
  obtain ⟨u, rfl, ru⟩ := vals1 r
  obtain rfl : u = Value.bool b := ru
  exact PySem.P.repr_of_bool ⟨.str _, H, I.tok _, ⟨_, rfl⟩, q⟩
end
end G1
namespace G1
open PySem PySem.Spec PyProof.Rows L2
/-- one keyword -/
def oneW {α : Type} : List α → List α → List α
  | [], a :: _ => [a]
  | _, _ => []
theorem kbinds_one {K : PySem.W.Frag} {fd : FuncData} {p0 : Str} (h : ∀ a : Value, bindArgs fd ⟨[], [(p0, a)]⟩ = pure [(p0, a)]) : KBinds K fd [p0] [p0] oneW oneW := by
  refine ⟨fun s us ws _ hl => ?_, fun {vs us zs ws} r1 r2 => ?_⟩
  · cases us with
    | cons u us => cases hl
    | nil =>
      cases ws with
      | nil => cases hl
      | cons a ws => exact .of_eq (h a)
  · cases r1 with
    | cons q t => exact .nil
    | nil =>
      cases r2 with
      | nil => exact .nil
      | cons q1 t1 => exact .cons q1 .nil
/-- a value by a word: what follows is shown once -/
theorem pe_cut {X : Cx} {e : Expr} {t : TE} (h : PE X e t) : PE X e (fun σ H Q => ∃ M : V → Hp → Prop, t σ H M ∧ ∀ v H', M v H' → Q v H') := by
  refine ⟨fun pins s σ H Q I hq => ?_⟩
  obtain ⟨M, h1, h2⟩ := hq
  refine thn (h.run pins s σ H M I h1) ?_
  intro u s1 hu
  obtain ⟨v, H1, I1, r1, q1⟩ := hu
  exact ⟨v, H1, I1, r1, h2 v H1 q1⟩
end G1
namespace G1
open PySem PySem.Spec PyProof.Rows L2
theorem cB_small (b : Bool) : cB b < 16 ^ 8 := by cases b <;> decide
theorem leaf_B (l : List Bool) : PyData.leavesShort 8 (.str (B l)) = true := by
  simp only [PyData.leavesShort, List.all_eq_true, decide_eq_true_eq]
  intro c hc
  rw [B_cps] at hc
  obtain ⟨b, _, rfl⟩ := List.mem_map.mp hc
  exact cB_small b
theorem w_B (l : List Bool) : PyData.weight (.str (B l)) = l.length := by
  simp only [PyData.weight]
  exact B_len l
/-- repr of one object, read as data that is not great -/
theorem go_repr {K : PySem.W.Frag} {H : Hp} {R : PyData → Prop} {a : Addr} (d : PyData) (hd : Dp K H (.ref a) d) (h1 : d.showable = true) (h2 : d.hasDict = false) (h3 : d.depth ≤ 60) (h4 : d.leavesShort 8 = true) (h5 : d.weight ≤ 2 ^ 20) (q : R d) :
    ∃ (a' : Addr) (d' : PyData), [V.ref a] = [V.ref a'] ∧ Dp K H (.ref a') d' ∧ d'.showable = true ∧ d'.hasDict = false ∧ d'.depth ≤ 60 ∧ d'.shown.length ≤ sizeLine ∧ R d' :=
  ⟨a, d, rfl, hd, h1, h2, h3, PyData.shown_fits (Nat.le_refl _) (by decide) h4 h5, q⟩
theorem str_refl (z : Str) : decide (V.str z = V.str z) = true := decide_eq_true rfl
end G1
namespace G1
open PySem PySem.Spec PyProof.Rows L2
/-- the data of a table, of lists of texts and of truths -/
def dTab (h t : List Bool) : PyData := .tuple [.str (B h), .str (B t)]
theorem dp_tab {K : PySem.W.Frag} {H : Hp} {p : Addr} {h t : List Bool} (e : H p = some (.tup [.str (B h), .str (B t)])) : Dp K H (.ref p) (dTab h t) :=
  .tup (.inl (.inl e)) (.cons (.str _) (.cons (.str _) .nil))
def dStrs (ls : List (List Bool)) : PyData := .list (ls.map fun l => .str (B l))
def dBools (bs : List Bool) : PyData := .list (bs.map PyData.bool)
theorem dpAll_strs {K : PySem.W.Frag} {H : Hp} : ∀ ls : List (List Bool), DpAll K H (ls.map fun l => V.str (B l)) (ls.map fun l => .str (B l))
  | [] => .nil
  | l :: ls => .cons (.str _) (dpAll_strs ls)
theorem dpAll_bools {K : PySem.W.Frag} {H : Hp} : ∀ bs : List Bool, DpAll K H (bs.map V.bl) (bs.map PyData.bool)
  | [] => .nil
  | b :: bs => .cons (.bl _) (dpAll_bools bs)
/-- repr of a table -/
theorem repr_tab {K : PySem.W.Frag} {H : Hp} {R : PyData → Prop} {a : Addr} {h t : List Bool} (e : H a = some (.tup [.str (B h), .str (B t)])) (h1 : h.length ≤ 5000) (t1 : t.length ≤ 5000) (q : R (dTab h t)) :
    ∃ (a' : Addr) (d' : PyData), [V.ref a] = [V.ref a'] ∧ Dp K H (.ref a') d' ∧ d'.showable = true ∧ d'.hasDict = false ∧ d'.depth ≤ 60 ∧ d'.shown.length ≤ sizeLine ∧ R d' := by
  refine go_repr (dTab h t) (dp_tab e) ?_ ?_ ?_ ?_ ?_ q
  · simp [dTab, PyData.showable, PyData.showableAll]
  · simp [dTab, PyData.hasDict, PyData.hasDictAll]
  · simp [dTab, PyData.depth, PyData.depthAll]
  · simp only [dTab, PyData.leavesShort, PyData.leavesShortAll, Bool.and_eq_true]
    exact ⟨leaf_B h, leaf_B t, trivial⟩
  · simp only [dTab, PyData.weight, PyData.weightAll]
    have e1 := w_B h
    have e2 := w_B t
    simp only [PyData.weight] at e1 e2
    omega
/-- repr of three texts -/
theorem repr_s3 {K : PySem.W.Frag} {H : Hp} {R : PyData → Prop} {a : Addr} {x y z : List Bool} (e : H a = some (.lst [.str (B x), .str (B y), .str (B z)])) (h1 : x.length ≤ 100000) (h2 : y.length ≤ 100000) (h3 : z.length ≤ 100000) (q : R (dStrs [x, y, z])) :
    ∃ (a' : Addr) (d' : PyData), [V.ref a] = [V.ref a'] ∧ Dp K H (.ref a') d' ∧ d'.showable = true ∧ d'.hasDict = false ∧ d'.depth ≤ 60 ∧ d'.shown.length ≤ sizeLine ∧ R d' := by
  refine go_repr (dStrs [x, y, z]) (.lst (.inl (.inl e)) (dpAll_strs [x, y, z])) ?_ ?_ ?_ ?_ ?_ q
  · simp [dStrs, PyData.showable, PyData.showableAll]
  · simp [dStrs, PyData.hasDict, PyData.hasDictAll]
  · simp [dStrs, PyData.depth, PyData.depthAll]
  · simp only [dStrs, List.map_cons, List.map_nil, PyData.leavesShort, PyData.leavesShortAll, Bool.and_eq_true]
    exact ⟨leaf_B x, leaf_B y, leaf_B z, trivial⟩
  · simp only [dStrs, List.map_cons, List.map_nil, PyData.weight, PyData.weightAll]
    have e1 := w_B x
    have e2 := w_B y
    have e3 := w_B z
    simp only [PyData.weight] at e1 e2 e3
    omega
theorem bools_ok : ∀ bs : List Bool, PyData.showableAll (bs.map PyData.bool) = true ∧ PyData.hasDictAll (bs.map PyData.bool) = false ∧ PyData.depthAll (bs.map PyData.bool) = 0 ∧ PyData.leavesShortAll 8 (bs.map PyData.bool) = true ∧ PyData.weightAll (bs.map PyData.bool) ≤ 2 * bs.length
  | [] => by simp [PyData.showableAll, PyData.hasDictAll, PyData.depthAll, PyData.leavesShortAll, PyData.weightAll]
  | b :: bs => by
    obtain ⟨h1, h2, h3, h4, h5⟩ := bools_ok bs
    simp [PyData.showableAll, PyData.hasDictAll, PyData.depthAll, PyData.leavesShortAll, PyData.weightAll, PyData.showable, PyData.hasDict, PyData.depth, PyData.leavesShort, PyData.weight, h1, h2, h3, h4]
    omega
/-- repr of truths -/
theorem repr_bs {K : PySem.W.Frag} {H : Hp} {R : PyData → Prop} {a : Addr} (bs : List Bool) {xs : List V} (e : H a = some (.lst xs)) (ex : xs = bs.map V.bl) (hl : bs.length ≤ 1000) (q : R (dBools bs)) :
    ∃ (a' : Addr) (d' : PyData), [V.ref a] = [V.ref a'] ∧ Dp K H (.ref a') d' ∧ d'.showable = true ∧ d'.hasDict = false ∧ d'.depth ≤ 60 ∧ d'.shown.length ≤ sizeLine ∧ R d' := by
  subst ex
  obtain ⟨h1, h2, h3, h4, h5⟩ := bools_ok bs
  refine go_repr (dBools bs) (.lst (.inl (.inl e)) (dpAll_bools bs)) ?_ ?_ ?_ ?_ ?_ q
  · simp only [dBools, PyData.showable]; exact h1
  · simp only [dBools, PyData.hasDict]; exact h2
  · simp only [dBools, PyData.depth, h3]; omega
  · simp only [dBools, PyData.leavesShort]; exact h4
  · simp only [dBools, PyData.weight]; omega
end G1
namespace G1
open PySem PySem.Spec PyProof.Rows L2
def dMix (a b c : Bool) (x : List Bool) : PyData := .list [.bool a, .bool b, .bool c, .str (B x)]
theorem repr_mix {K : PySem.W.Frag} {H : Hp} {R : PyData → Prop} {p : Addr} {a b c : Bool} {x : List Bool} (e : H p = some (.lst [.bl a, .bl b, .bl c, .str (B x)])) (h1 : x.length ≤ 100000) (q : R (dMix a b c x)) :
    ∃ (a' : Addr) (d' : PyData), [V.ref p] = [V.ref a'] ∧ Dp K H (.ref a') d' ∧ d'.showable = true ∧ d'.hasDict = false ∧ d'.depth ≤ 60 ∧ d'.shown.length ≤ sizeLine ∧ R d' := by
  refine go_repr (dMix a b c x) (.lst (.inl (.inl e)) (.cons (.bl _) (.cons (.bl _) (.cons (.bl _) (.cons (.str _) .nil))))) ?_ ?_ ?_ ?_ ?_ q
  · simp [dMix, PyData.showable, PyData.showableAll]
  · simp [dMix, PyData.hasDict, PyData.hasDictAll]
  · simp [dMix, PyData.depth, PyData.depthAll]
  · simp only [dMix, PyData.leavesShort, PyData.leavesShortAll, Bool.and_eq_true]
    exact ⟨trivial, trivial, trivial, leaf_B x, trivial⟩
  · simp only [dMix, PyData.weight, PyData.weightAll]
    have e1 := w_B x
    simp only [PyData.weight] at e1
    omega
theorem L_01 : Str.ofString "01" = B [false, true] := by decide +kernel
theorem L_001 : Str.ofString "001" = B [false, false, true] := by decide +kernel
theorem L_1000 : Str.ofString "1000" = B [true, false, false, false] := by decide +kernel
end G1
namespace G1
open PySem PySem.Spec PyProof.Rows L2
/-- data that may stand in a list that is shown -/
structure Small (d : PyData) : Prop where
  sh : d.showable = true
  nd : d.hasDict = false
  dp : d.depth ≤ 20
  lv : d.leavesShort 8 = true
  wt : d.weight ≤ 20000
theorem small_bool (b : Bool) : Small (.bool b) := ⟨rfl, rfl, by simp [PyData.depth], rfl, by simp [PyData.weight]⟩
theorem small_none : Small .none := ⟨rfl, rfl, by simp [PyData.depth], rfl, by simp [PyData.weight]⟩
theorem small_B {l : List Bool} (h : l.length ≤ 20000) : Small (.str (B l)) := by
  refine ⟨rfl, rfl, by simp [PyData.depth], leaf_B l, ?_⟩
  rw [w_B]; exact h
theorem small_tab {h t : List Bool} (h1 : h.length ≤ 5000) (t1 : t.length ≤ 5000) : Small (dTab h t) := by
  refine ⟨?_, ?_, ?_, ?_, ?_⟩
  · simp [dTab, PyData.showable, PyData.showableAll]
  · simp [dTab, PyData.hasDict, PyData.hasDictAll]
  · simp [dTab, PyData.depth, PyData.depthAll]
  · simp only [dTab, PyData.leavesShort, PyData.leavesShortAll, Bool.and_eq_true]
    exact ⟨leaf_B h, leaf_B t, trivial⟩
  · simp only [dTab, PyData.weight, PyData.weightAll]
    have e1 := w_B h
    have e2 := w_B t
    simp only [PyData.weight] at e1 e2
    omega
theorem small_all : ∀ ds : List PyData, (∀ d ∈ ds, Small d) → PyData.showableAll ds = true ∧ PyData.hasDictAll ds = false ∧ PyData.depthAll ds ≤ 20 ∧ PyData.leavesShortAll 8 ds = true ∧ PyData.weightAll ds ≤ 20001 * ds.length
  | [], _ => by simp [PyData.showableAll, PyData.hasDictAll, PyData.depthAll, PyData.leavesShortAll, PyData.weightAll]
  | d :: ds, h => by
    obtain ⟨h1, h2, h3, h4, h5⟩ := small_all ds fun e he => h e (List.mem_cons_of_mem _ he)
    have s := h d List.mem_cons_self
    refine ⟨?_, ?_, ?_, ?_, ?_⟩
    · simp [PyData.showableAll, h1, s.sh]
    · simp [PyData.hasDictAll, h2, s.nd]
    · have := s.dp
      simp only [PyData.depthAll]
      omega
    · simp [PyData.leavesShortAll, h4, s.lv]
    · have := s.wt
      simp only [PyData.weightAll, List.length_cons]
      omega
/-- repr of a list of such -/
theorem repr_items {K : PySem.W.Frag} {H : Hp} {R : PyData → Prop} {a : Addr} {xs : List V} (ds : List PyData) (e : H a = some (.lst xs)) (hd : DpAll K H xs ds) (hs : ∀ d ∈ ds, Small d) (hl : ds.length ≤ 40) (q : R (.list ds)) :
    ∃ (a' : Addr) (d' : PyData), [V.ref a] = [V.ref a'] ∧ Dp K H (.ref a') d' ∧ d'.showable = true ∧ d'.hasDict = false ∧ d'.depth ≤ 60 ∧ d'.shown.length ≤ sizeLine ∧ R d' := by
  obtain ⟨h1, h2, h3, h4, h5⟩ := small_all ds hs
  refine go_repr (.list ds) (.lst (.inl (.inl e)) hd) ?_ ?_ ?_ ?_ ?_ q
  · simp only [PyData.showable]; exact h1
  · simp only [PyData.hasDict]; exact h2
  · simp only [PyData.depth]; omega
  · simp only [PyData.leavesShort]; exact h4
  · simp only [PyData.weight]
    have : 20001 * ds.length ≤ 20001 * 40 := Nat.mul_le_mul_left _ hl
    omega
theorem eqv_tab (a b c d : List Bool) : PyData.eqv (dTab a b) (dTab c d) = decide (a = c ∧ b = d) := by
  have e : ∀ x y : List Bool, (B x == B y) = decide (x = y) := fun x y => by
    by_cases h : x = y
    · subst h; simp
    · rw [decide_eq_false h]
      exact beq_eq_false_iff_ne.mpr fun z => h (B_inj z)
  have e2 : PyData.eqv (dTab a b) (dTab c d) = ((B a == B c) && ((B b == B d) && true)) := by simp only [dTab, PyData.eqv, PyData.eqvAll]
  rw [e2, e, e, Bool.and_true, Bool.decide_and]
theorem shaped_tab (h t : List Bool) : SeqAt.shaped (dTab h t) = true := by
  have l : ∀ x : List Bool, PyData.canLay0 (.str (B x)) = true := fun x => by
    simp only [PyData.canLay0, PyData.strOk]
    rw [Array.all_eq_true_iff_forall_mem]
    intro c hc
    have hc2 : c ∈ (B x).cps.toList := Array.mem_toList_iff.mpr hc
    rw [B_cps] at hc2
    obtain ⟨b, _, rfl⟩ := List.mem_map.mp hc2
    cases b <;> decide
  show (PyData.canLay0 (dTab h t) && decide (PyData.depth (dTab h t) ≤ 64)) = true
  rw [Bool.and_eq_true]
  refine ⟨?_, decide_eq_true ?_⟩
  · simp only [dTab, PyData.canLay0, PyData.canLayAll0, Bool.and_eq_true]
    exact ⟨l h, l t, trivial⟩
  · simp [dTab, PyData.depth, PyData.depthAll]
end G1
/-! what draws come from: a list of two lists and a count, changed by each draw; all else stands -/
namespace G1
open PySem PySem.Spec PyProof.Rows L2

/-- the well at w, its great cells at g -/
def WellAt (w g : Addr) (H : Hp) : Prop := ∃ (c : Addr) (gs cs : List Int) (k : Int), w ≠ g ∧ c ≠ g ∧ c ≠ w ∧ H w = some (.lst [.ref g, .ref c, .int k]) ∧
  H g = some (.lst (gs.map V.int)) ∧ H c = some (.lst (cs.map V.int)) ∧ 0 < cs.length ∧ gs.length ≤ 1000 ∧ cs.length ≤ 1000
/-- H' is as H but for the well -/
def Go (w g : Addr) (H H' : Hp) : Prop := ∀ a o, a ≠ w → a ≠ g → H a = some o → H' a = some o
theorem Go.refl {w g : Addr} {H : Hp} : Go w g H H := fun _ _ _ _ h => h
theorem Go.trans {w g : Addr} {H H1 H2 : Hp} (a : Go w g H H1) (b : Go w g H1 H2) : Go w g H H2 := fun x o h1 h2 h => b x o h1 h2 (a x o h1 h2 h)
theorem Go.of {w g : Addr} {H H' : Hp} (h : Same H H') : Go w g H H' := fun x o _ _ e => h x o e
/-- o stands at a, apart from the well -/
structure At (w g : Addr) (H : Hp) (a : Addr) (o : HO) : Prop where
  nw : a ≠ w
  ng : a ≠ g
  at_ : H a = some o
theorem At.go {w g : Addr} {H H' : Hp} {a : Addr} {o : HO} (x : At w g H a o) (s : Go w g H H') : At w g H' a o := ⟨x.nw, x.ng, s a o x.nw x.ng x.at_⟩
theorem same_new {H : Hp} {p : Addr} {o : HO} (h : H p = none) : Same H (upd H p o) := fun b x e => by
  rw [upd_ne (ne_of_none e h)]
  exact e
theorem Same.rfl' {H : Hp} : Same H H := fun _ _ h => h
theorem WellAt.same {w g : Addr} {H H' : Hp} (W : WellAt w g H) (s : Same H H') : WellAt w g H' := by
  obtain ⟨c, gs, cs, k, h1, h2, h3, h4, h5, h6, h7⟩ := W
  exact ⟨c, gs, cs, k, h1, h2, h3, s _ _ h4, s _ _ h5, s _ _ h6, h7⟩
theorem WellAt.fresh {w g p : Addr} {H : Hp} (W : WellAt w g H) (h : H p = none) : p ≠ w ∧ p ≠ g := by
  obtain ⟨c, gs, cs, k, h1, h2, h3, h4, h5, h6, h7⟩ := W
  exact ⟨(ne_of_none h4 h).symm, (ne_of_none h5 h).symm⟩
/-- a new object beside the well -/
theorem new_w {w g : Addr} {H : Hp} {o : HO} {Q : VK} (W : WellAt w g H)
    (h : ∀ p H', H p = none → Same H H' → WellAt w g H' → At w g H' p o → Q (.ref p) H') : ∀ p, H p = none → Q (.ref p) (upd H p o) := fun p hp =>
  h p _ hp (same_new hp) (W.same (same_new hp)) ⟨(W.fresh hp).1, (W.fresh hp).2, upd_same⟩
/-- a new object -/
theorem new_s {H : Hp} {o : HO} {Q : VK} (h : ∀ p H', H p = none → Same H H' → H' p = some o → Q (.ref p) H') : ∀ p, H p = none → Q (.ref p) (upd H p o) :=
  fun p hp => h p _ hp (same_new hp) upd_same
theorem new_of {w g p : Addr} {H H' : Hp} {o : HO} (W : WellAt w g H) (hp : H p = none) (e : upd H p o = H') : Same H H' ∧ WellAt w g H' ∧ At w g H' p o := by
  subst e
  exact ⟨same_new hp, W.same (same_new hp), (W.fresh hp).1, (W.fresh hp).2, upd_same⟩
theorem new_of0 {p : Addr} {H H' : Hp} {o : HO} (hp : H p = none) (e : upd H p o = H') : Same H H' ∧ H' p = some o := by
  subst e
  exact ⟨same_new hp, upd_same⟩
theorem same_mut {H H1 : Hp} {D : Addr} {o : HO} (s : Same H H1) (h : H D = none) : Same H (upd H1 D o) := fun b x e => by
  rw [upd_ne (ne_of_none e h)]
  exact s _ _ e
theorem szl {n : Nat} (h : n ≤ 1000) : n ≤ sizeLine := Nat.le_trans h (by decide)
theorem At.sqL {K : PySem.W.Frag} {w g : Addr} {H : Hp} {a : Addr} {xs : List V} (x : At w g H a (.lst xs)) : SqL K H a xs := .inl (.inl x.at_)
theorem At.sqT {K : PySem.W.Frag} {w g : Addr} {H : Hp} {a : Addr} {xs : List V} (x : At w g H a (.tup xs)) : SqT K H a xs := .inl (.inl x.at_)
theorem sqL_of {K : PySem.W.Frag} {H : Hp} {a : Addr} {xs : List V} (h : H a = some (.lst xs)) : SqL K H a xs := .inl (.inl h)
theorem sqT_of {K : PySem.W.Frag} {H : Hp} {a : Addr} {xs : List V} (h : H a = some (.tup xs)) : SqT K H a xs := .inl (.inl h)
/-- a tuple stands apart from the well -/
theorem WellAt.tup {w g a : Addr} {H : Hp} {xs : List V} (W : WellAt w g H) (h : H a = some (.tup xs)) : At w g H a (.tup xs) := by
  obtain ⟨c, gs, cs, k, h1, h2, h3, h4, h5, h6, h7⟩ := W
  exact ⟨ne_of h h4 (by intro z; cases z), ne_of h h5 (by intro z; cases z), h⟩
end G1
namespace G1
open PySem PySem.Spec PyProof.Rows L2
theorem ifT {A B : Prop} (h : A) : if true = true then A else B := by rw [if_pos rfl]; exact h
theorem ifF {A B : Prop} (h : B) : if false = true then A else B := by rw [if_neg Bool.false_ne_true]; exact h
theorem ifD {c : Prop} [Decidable c] {A B : Prop} (h1 : c → A) (h2 : ¬ c → B) : if decide c = true then A else B := by
  by_cases h : c
  · rw [decide_eq_true h]
    exact ifT (h1 h)
  · rw [decide_eq_false h]
    exact ifF (h2 h)
theorem ifDn {c : Prop} [Decidable c] {A B : Prop} (h1 : ¬ c → A) (h2 : c → B) : if (!decide c) = true then A else B := by
  by_cases h : c
  · rw [decide_eq_true h]
    exact ifF (h2 h)
  · rw [decide_eq_false h]
    exact ifT (h1 h)
theorem ifB {b : Bool} {A B : Prop} (h1 : b = true → A) (h2 : b = false → B) : if b = true then A else B := by
  cases b with
  | true => exact ifT (h1 rfl)
  | false => exact ifF (h2 rfl)
end G1
namespace G1
open PySem PySem.Spec PyProof.Rows L2
theorem dpAll_ints {K : PySem.W.Frag} {H : Hp} : ∀ ns : List Int, DpAll K H (ns.map V.int) (ns.map PyData.int)
  | [] => .nil
  | n :: ns => .cons (.int n) (dpAll_ints ns)
theorem lay_ints : ∀ ns : List Int, PyData.canLayAll0 (ns.map PyData.int) = true
  | [] => by simp [PyData.canLayAll0]
  | n :: ns => by simp [PyData.canLayAll0, PyData.canLay0, lay_ints ns]
theorem depth_ints : ∀ ns : List Int, PyData.depthAll (ns.map PyData.int) = 0
  | [] => by simp [PyData.depthAll]
  | n :: ns => by simp [PyData.depthAll, PyData.depth, depth_ints ns]
theorem shaped_ints (ns : List Int) : SeqAt.shaped (.list (ns.map PyData.int)) = true := by
  show (PyData.canLay0 (.list (ns.map PyData.int)) && decide (PyData.depth (.list (ns.map PyData.int)) ≤ 64)) = true
  rw [Bool.and_eq_true]
  refine ⟨by simp only [PyData.canLay0]; exact lay_ints ns, decide_eq_true ?_⟩
  simp only [PyData.depth, depth_ints]
  omega
theorem eqv_ints_nil (ns : List Int) : PyData.eqv (.list (ns.map PyData.int)) (.list []) = decide (ns = []) := by
  cases ns with
  | nil => simp [PyData.eqv, PyData.eqvAll]
  | cons n ns => simp [PyData.eqv, PyData.eqvAll]
end G1

namespace G1
open PySem PySem.Spec PyProof.Rows L2
theorem ix_zero {n : Nat} (h : 0 < n) : ixN n 0 = some 0 := by
  unfold ixN
  rw [if_pos (by omega), if_pos (by omega)]
  rfl
theorem ix_at {n j : Nat} {i : Int} (e : i = (j : Int)) (h : j < n) : ixN n i = some j := by
  subst e
  unfold ixN
  rw [if_pos (by omega), if_pos (by omega)]
  rfl
end G1

namespace G1
open PySem PySem.Spec PyProof.Rows L2
theorem seq_zero (n : Nat) : seqIndex? 0 (n + 1) = some 0 := by
  unfold seqIndex?
  simp
end G1

namespace G1
open PySem PySem.Spec PyProof.Rows L2
section
variable {K : PySem.W.Frag} {H : Hp} {Q : VK} {p : Addr} {xs : List V} {v : V}
theorem go_ixL {R : V → Prop} {j : Nat} (hs : H p = some (.lst xs)) (hj : xs[j]? = some v) (q : R v) :
    ∃ p' xs' i' v', V.ref p = V.ref p' ∧ V.int (j : Int) = V.int i' ∧ SqL K H p' xs' ∧ atI xs' i' = some v' ∧ R v' :=
  ⟨p, xs, _, v, rfl, rfl, sqL_of hs, atI_nat hj, q⟩
theorem go_ixLi {R : V → Prop} {i : Int} {j : Nat} (hs : H p = some (.lst xs)) (e : i = (j : Int)) (hj : xs[j]? = some v) (q : R v) :
    ∃ p' xs' i' v', V.ref p = V.ref p' ∧ V.int i = V.int i' ∧ SqL K H p' xs' ∧ atI xs' i' = some v' ∧ R v' := by
  subst e
  exact ⟨p, xs, _, v, rfl, rfl, sqL_of hs, atI_nat hj, q⟩
theorem go_ixT {R : V → Prop} {j : Nat} (hs : H p = some (.tup xs)) (hj : xs[j]? = some v) (q : R v) :
    ∃ p' xs' i' v', V.ref p = V.ref p' ∧ V.int (j : Int) = V.int i' ∧ SqT K H p' xs' ∧ atI xs' i' = some v' ∧ R v' :=
  ⟨p, xs, _, v, rfl, rfl, sqT_of hs, atI_nat hj, q⟩
theorem go_ixLast {R : V → Prop} (hs : H p = some (.lst xs)) (hj : xs[xs.length - 1]? = some v) (q : R v) :
    ∃ p' xs' i' v', V.ref p = V.ref p' ∧ V.int (-1) = V.int i' ∧ SqL K H p' xs' ∧ atI xs' i' = some v' ∧ R v' := by
  refine ⟨p, xs, _, v, rfl, rfl, sqL_of hs, ?_, q⟩
  have hl : 0 < xs.length := by
    cases xs with
    | nil => simp at hj
    | cons a l => simp
  unfold atI ixN
  rw [if_neg (by omega), if_pos (by omega)]
  show xs[(-1 + (xs.length : Int)).toNat]? = _
  rw [show (-1 + (xs.length : Int)).toNat = xs.length - 1 by omega]
  exact hj
theorem go_tup {R : List V → Prop} (hs : H p = some (.tup xs)) (q : R xs) : ∃ a ys, V.ref p = V.ref a ∧ SqT K H a ys ∧ R ys := ⟨p, xs, rfl, sqT_of hs, q⟩
theorem go_unl {R : List V → Prop} (hs : H p = some (.lst xs)) (q : R xs) : ∃ a ys, V.ref p = V.ref a ∧ SqL K H a ys ∧ R ys := ⟨p, xs, rfl, sqL_of hs, q⟩
theorem go_lenL {R : List V → Prop} (hs : H p = some (.lst xs)) (q : R xs) : ∃ p' ys, [V.ref p] = [V.ref p'] ∧ (SqL K H p' ys ∨ SqT K H p' ys) ∧ R ys :=
  ⟨p, xs, rfl, Or.inl (sqL_of hs), q⟩
end
end G1

namespace G1
open PySem PySem.Spec PyProof.Rows L2
section
variable {l m : List Bool}
/-- len of a text of two signs -/
theorem go_lenS {R : Str → Prop} (h : l.length ≤ 1000000) (q : R (B l)) : ∃ z, [V.str (B l)] = [V.str z] ∧ z.length ≤ sizeLine ∧ R z :=
  ⟨B l, rfl, by rw [B_len]; exact szM h, q⟩
theorem go_addS {R : Str → Str → Prop} (h : l.length + m.length ≤ 1000000) (q : R (B l) (B m)) : ∃ i j, V.str (B l) = V.str i ∧ V.str (B m) = V.str j ∧ i.length + j.length ≤ sizeLine ∧ R i j :=
  ⟨B l, B m, rfl, rfl, by rw [B_len, B_len]; exact szM h, q⟩
theorem go_mulS {R : Str → Int → Prop} {n : Int} (h : 0 ≤ n ∧ n < 2 ^ 30) (h2 : l.length * n.toNat ≤ 1000000) (q : R (B l) n) :
    ∃ z k, V.str (B l) = V.str z ∧ V.int n = V.int k ∧ 0 ≤ k ∧ k < 2 ^ 30 ∧ z.length * k.toNat ≤ 1000000 ∧ R z k :=
  ⟨B l, n, rfl, rfl, h.1, h.2, by rw [B_len]; exact h2, q⟩
theorem go_sl {R : Str → Prop} (h : l.length ≤ 1000000) (q : R (B l)) : ∃ z, V.str (B l) = V.str z ∧ z.length ≤ sizeLine ∧ R z :=
  ⟨B l, rfl, by rw [B_len]; exact szM h, q⟩
theorem go_ixS {R : Nat → Prop} {i : Int} {k : Nat} {b : Bool} (hi : i = (k : Int)) (h : l.length ≤ 1000000) (hk : l[k]? = some b) (q : R (cB b)) :
    ∃ z i' c, V.str (B l) = V.str z ∧ V.int i = V.int i' ∧ z.length ≤ sizeLine ∧ atI z.cps.toList i' = some c ∧ R c :=
  ⟨B l, i, _, rfl, rfl, by rw [B_len]; exact szM h, B_at l hi hk, q⟩
theorem go_ixSn {R : Nat → Prop} {i : Int} {k : Nat} {b : Bool} (hi : i = -1 - (k : Int)) (h : l.length ≤ 1000000) (hl : k < l.length) (hk : l[l.length - 1 - k]? = some b) (q : R (cB b)) :
    ∃ z i' c, V.str (B l) = V.str z ∧ V.int i = V.int i' ∧ z.length ≤ sizeLine ∧ atI z.cps.toList i' = some c ∧ R c :=
  ⟨B l, i, _, rfl, rfl, by rw [B_len]; exact szM h, B_atNeg l hi hl hk, q⟩
end
end G1
namespace G1
open PySem PySem.Spec PyProof.Rows L2
theorem log_small {i : Int} (h0 : 0 ≤ i) (h1 : i < 2 ^ 64) : i.natAbs.log2 < 1920 := by
  have h : i.natAbs < 2 ^ 64 := by omega
  by_cases hz : i.natAbs = 0
  · rw [hz]; decide
  · exact Nat.lt_of_lt_of_le ((Nat.log2_lt hz).mpr h) (by decide)
theorem go_bit {R : Int → Prop} {i : Int} (h : 0 ≤ i ∧ i < 2) (q : R i) : ∃ k, [V.int i] = [V.int k] ∧ k.natAbs.log2 < 1920 ∧ R k :=
  ⟨i, rfl, log_small h.1 (by omega), q⟩
theorem flat_one : ∀ bs : List Bool, (bs.map fun b => [b]).flatten = bs
  | [] => rfl
  | b :: bs => by rw [List.map_cons, List.flatten_cons, flat_one bs]; rfl
theorem len_one : ∀ bs : List Bool, ((bs.map fun b => B [b]).map (·.length)).sum = bs.length
  | [] => rfl
  | b :: bs => by
    rw [List.map_cons, List.map_cons, List.sum_cons, len_one bs, B_len, List.length_cons, List.length_cons, List.length_nil]
    omega
theorem go_join {K : PySem.W.Frag} {H : Hp} {R : Str → List Str → Prop} {D : Addr} {bs : List Bool} (hD : H D = some (.lst (bs.map fun b => V.str (B [b])))) (hl : bs.length ≤ 1000000) (q : R (B []) (bs.map fun b => B [b])) :
    ∃ a p ys, V.str (B []) = V.str a ∧ [V.ref D] = [V.ref p] ∧ (SqL K H p (List.map V.str ys) ∨ SqT K H p (List.map V.str ys)) ∧ (List.map (fun x => x.length) ys).sum + ys.length * a.length ≤ 16777216 ∧ R a ys := by
  refine ⟨B [], D, bs.map fun b => B [b], rfl, rfl, Or.inl ?_, ?_, q⟩
  · rw [List.map_map]
    exact sqL_of hD
  · rw [len_one, B_len]
    simp
    omega
theorem joined (bs : List Bool) : Txt.join (B []) (bs.map fun b => B [b]) = B bs := by
  have e : (bs.map fun b => B [b]) = (bs.map fun b => [b]).map B := by rw [List.map_map]; rfl
  rw [e, join_nil, flat_one]
end G1
namespace G1
open PySem PySem.Spec PyProof.Rows L2
theorem go_in {K : PySem.W.Frag} {H : Hp} {R : Bool → Prop} {p : Addr} {x : Int} {ys : List Int} {xs : List V} (hs : H p = some (.tup xs)) (e : xs = ys.map V.int) (q : ∀ b, R b) :
    ∃ p' zs, V.ref p = V.ref p' ∧ (SqL K H p' zs ∨ SqT K H p' zs) ∧ flatV (.int x) = true ∧ zs.all flatV = true ∧ R (inV (.int x) zs) := by
  refine ⟨p, xs, rfl, Or.inr (sqT_of hs), rfl, ?_, q _⟩
  subst e
  rw [List.all_eq_true]
  intro v hv
  obtain ⟨i, _, rfl⟩ := List.mem_map.mp hv
  rfl
theorem mul_le {a b n m : Nat} (h1 : a ≤ n) (h2 : b ≤ m) (h : n * m ≤ 1000000) : a * b ≤ 1000000 := Nat.le_trans (Nat.mul_le_mul h1 h2) h
end G1
/-! rows of signs: a head and then a turn again and again; least forms (plain Lean) -/
namespace Row
/-- the sign of a number -/
def sg (h t : List Bool) (n : Nat) : Bool := if n < h.length then h.getD n false else t.getD ((n - h.length) % t.length) false
/-- so many signs of a row from a place on -/
def rng (r : Nat → Bool) (a n : Nat) : List Bool := (List.range n).map fun i => r (a + i)
theorem rng_len (r : Nat → Bool) (a n : Nat) : (rng r a n).length = n := by unfold rng; rw [List.length_map, List.length_range]
theorem rng_get (r : Nat → Bool) (a n i : Nat) (h : i < n) : (rng r a n)[i]? = some (r (a + i)) := by
  unfold rng
  rw [List.getElem?_map, List.getElem?_range h]
  rfl
theorem rng_getD (r : Nat → Bool) (a n i : Nat) (h : i < n) : (rng r a n).getD i false = r (a + i) := by
  rw [List.getD_eq_getElem?_getD, rng_get r a n i h]
  rfl
theorem ext_rng {l : List Bool} {r : Nat → Bool} {a n : Nat} (hl : l.length = n) (h : ∀ i, i < n → l[i]? = some (r (a + i))) : l = rng r a n := by
  apply List.ext_getElem?
  intro i
  by_cases hi : i < n
  · rw [h i hi, rng_get r a n i hi]
  · rw [List.getElem?_eq_none (by omega), List.getElem?_eq_none (by rw [rng_len]; omega)]
theorem getD_some {l : List Bool} {i : Nat} (h : i < l.length) : l[i]? = some (l.getD i false) := by
  rw [List.getD_eq_getElem?_getD, List.getElem?_eq_getElem h]
  rfl
theorem sg_head {h t : List Bool} {n : Nat} (hn : n < h.length) : sg h t n = h.getD n false := by unfold sg; rw [if_pos hn]
theorem sg_turn {h t : List Bool} {n : Nat} (hn : h.length ≤ n) : sg h t n = t.getD ((n - h.length) % t.length) false := by unfold sg; rw [if_neg (by omega)]
/-- far numbers as those nearer by a multiple of the turn -/
theorem sg_back {h t : List Bool} (n k : Nat) (hk : h.length + k * t.length ≤ n) : sg h t (n - k * t.length) = sg h t n := by
  rw [sg_turn (by omega), sg_turn (by omega)]
  congr 1
  rw [show n - k * t.length - h.length = (n - h.length) - k * t.length by omega]
  have e : n - h.length = ((n - h.length) - k * t.length) + k * t.length := by omega
  rw [e, Nat.add_mul_mod_self_right]
  congr 1
  omega

/-! ### turns that come round -/
/-- turned on by k the turn is the same -/
def Rot (t : List Bool) (k : Nat) : Prop := ∀ i, i < t.length → t.getD i false = t.getD ((i + k) % t.length) false
theorem Rot.any {t : List Bool} {k : Nat} (h : Rot t k) (ht : 0 < t.length) (i : Nat) : t.getD (i % t.length) false = t.getD ((i + k) % t.length) false := by
  have := h (i % t.length) (Nat.mod_lt _ ht)
  rw [this, Nat.mod_add_mod]
theorem Rot.mul {t : List Bool} {k : Nat} (h : Rot t k) (ht : 0 < t.length) (m : Nat) : Rot t (m * k) := by
  induction m with
  | zero =>
    intro i hi
    rw [Nat.zero_mul, Nat.add_zero, Nat.mod_eq_of_lt hi]
  | succ m ih =>
    intro i hi
    rw [ih i hi, h.any ht]
    congr 1
    rw [Nat.succ_mul]
    congr 1
    omega
theorem rot_len (t : List Bool) : Rot t t.length := by
  intro i hi
  rw [Nat.add_mod_right, Nat.mod_eq_of_lt hi]
/-- the least way by which the turn is turned on into itself -/
structure IsPer (t : List Bool) (s : Nat) : Prop where
  pos : 1 ≤ s
  le : s ≤ t.length
  rot : Rot t s
  least : ∀ k, 1 ≤ k → k < s → ¬ Rot t k
theorem IsPer.uniq {t : List Bool} {s s' : Nat} (a : IsPer t s) (b : IsPer t s') : s = s' := by
  rcases Nat.lt_trichotomy s s' with h | h | h
  · exact absurd a.rot (b.least s a.pos h)
  · exact h
  · exact absurd b.rot (a.least s' b.pos h)
theorem IsPer.dvd {t : List Bool} {s : Nat} (a : IsPer t s) : t.length % s = 0 := by
  have ht : 0 < t.length := Nat.lt_of_lt_of_le a.pos a.le
  by_cases h : t.length % s = 0
  · exact h
  · exfalso
    have hlt := Nat.mod_lt t.length (show 0 < s from a.pos)
    refine a.least (t.length % s) (by omega) hlt ?_
    -- T = q s + r, turned on by T and back by q s
    intro i hi
    have hq := (a.rot.mul ht (t.length / s)).any ht (i + t.length % s)
    rw [hq]
    have e : i + t.length % s + t.length / s * s = i + t.length := by
      have := Nat.mod_add_div t.length s
      rw [Nat.mul_comm] at this
      omega
    rw [e, Nat.add_mod_right, Nat.mod_eq_of_lt hi]

/-- where the turn begins, if it is s signs long -/
structure IsBeg (h t : List Bool) (s m : Nat) : Prop where
  le : m ≤ h.length
  same : ∀ n, m ≤ n → n < h.length → sg h t n = sg h t (n + s)
  least : m = 0 ∨ sg h t (m - 1) ≠ sg h t (m - 1 + s)
theorem IsBeg.uniq {h t : List Bool} {s m m' : Nat} (a : IsBeg h t s m) (b : IsBeg h t s m') : m = m' := by
  have key : ∀ {m m' : Nat}, IsBeg h t s m → IsBeg h t s m' → ¬ m < m' := by
    intro m m' a b hlt
    rcases b.least with e | e
    · omega
    · exact e (a.same (m' - 1) (by omega) (by have := b.le; omega))
  have k1 := key a b
  have k2 := key b a
  omega
/-- behind the head the row goes on by the turn -/
theorem sg_rot {h t : List Bool} {s : Nat} (ht : 0 < t.length) (r : Rot t s) {n : Nat} (hn : h.length ≤ n) : sg h t n = sg h t (n + s) := by
  rw [sg_turn hn, sg_turn (by omega), r.any ht]
  congr 2
  omega
theorem IsBeg.from {h t : List Bool} {s m : Nat} (a : IsBeg h t s m) (p : IsPer t s) {n : Nat} (hn : m ≤ n) : sg h t n = sg h t (n + s) := by
  by_cases hh : n < h.length
  · exact a.same n hn hh
  · exact sg_rot (Nat.lt_of_lt_of_le p.pos p.le) p.rot (by omega)
theorem IsBeg.mul {h t : List Bool} {s m : Nat} (a : IsBeg h t s m) (p : IsPer t s) {n : Nat} (hn : m ≤ n) (k : Nat) : sg h t n = sg h t (n + k * s) := by
  induction k with
  | zero => rw [Nat.zero_mul, Nat.add_zero]
  | succ k ih =>
    rw [ih, a.from p (by omega), Nat.succ_mul]
    congr 1
    omega
/-- the least form tells the same -/
theorem sg_least {h t : List Bool} {s m : Nat} (a : IsBeg h t s m) (p : IsPer t s) (n : Nat) : sg (rng (sg h t) 0 m) (rng (sg h t) m s) n = sg h t n := by
  by_cases hn : n < m
  · rw [sg_head (by rw [rng_len]; exact hn), rng_getD _ _ _ _ hn, Nat.zero_add]
  · rw [sg_turn (by rw [rng_len]; omega), rng_len, rng_len, rng_getD _ _ _ _ (Nat.mod_lt _ p.pos)]
    have h1 := a.mul p (n := m + (n - m) % s) (by omega) ((n - m) / s)
    rw [h1]
    congr 1
    have := Nat.mod_add_div (n - m) s
    rw [Nat.mul_comm] at this
    omega
end Row
/-! the two ways to a least form: by parts of the turn and the head gone backwards; by turning on and by halving -/
namespace Row
open G1
theorem per_exists {t : List Bool} (ht : 0 < t.length) : ∃ s, IsPer t s := by
  have key : ∀ n, (∃ k, 1 ≤ k ∧ k ≤ n ∧ Rot t k) → ∃ s, 1 ≤ s ∧ s ≤ n ∧ Rot t s ∧ ∀ k, 1 ≤ k → k < s → ¬ Rot t k := by
    intro n
    induction n with
    | zero => rintro ⟨k, h1, h2, _⟩; omega
    | succ n ih =>
      rintro ⟨k, h1, h2, h3⟩
      by_cases h : ∃ k, 1 ≤ k ∧ k ≤ n ∧ Rot t k
      · obtain ⟨s, a, b, c, d⟩ := ih h
        exact ⟨s, a, by omega, c, d⟩
      · refine ⟨k, h1, h2, h3, fun j j1 j2 j3 => h ⟨j, j1, by omega, j3⟩⟩
  obtain ⟨s, a, b, c, d⟩ := key t.length ⟨t.length, ht, Nat.le_refl _, rot_len t⟩
  exact ⟨s, a, b, c, d⟩
theorem rot_part {t : List Bool} {s : Nat} (hs : 1 ≤ s) (hd : t.length % s = 0) (ht : 0 < t.length) (r : Rot t s) (i : Nat) (hi : i < t.length) : t.getD i false = t.getD (i % s) false := by
  have h := (r.mul ht (i / s)) (i % s) (Nat.lt_of_le_of_lt (Nat.mod_le _ _) hi)
  rw [h]
  congr 1
  have := Nat.mod_add_div i s
  rw [Nat.mul_comm] at this
  rw [this, Nat.mod_eq_of_lt hi]
theorem part_get {t : List Bool} {s : Nat} (hs : 1 ≤ s) (hl : s ≤ t.length) (hd : t.length % s = 0) (i : Nat) (hi : i < t.length) : (rep (t.length / s) (t.take s))[i]? = some (t.getD (i % s) false) := by
  have e : (t.take s).length = s := by rw [List.length_take]; omega
  have e2 : t.length / s * s = t.length := by
    have := Nat.mod_add_div t.length s
    rw [Nat.mul_comm] at this
    omega
  have hm := Nat.mod_lt i (show 0 < s from hs)
  rw [rep_get _ _ _ (by rw [e, e2]; exact hi), e, List.getElem?_take, if_pos hm]
  exact getD_some (by omega)
theorem rep_iff {t : List Bool} {s : Nat} (hs : 1 ≤ s) (hl : s ≤ t.length) (hd : t.length % s = 0) : rep (t.length / s) (t.take s) = t ↔ Rot t s := by
  have ht : 0 < t.length := by omega
  have e : (t.take s).length = s := by rw [List.length_take]; omega
  have e2 : t.length / s * s = t.length := by
    have := Nat.mod_add_div t.length s
    rw [Nat.mul_comm] at this
    omega
  constructor
  · intro h i hi
    have k1 : ∀ i, i < t.length → t.getD i false = t.getD (i % s) false := by
      intro i hi
      have h1 := part_get hs hl hd i hi
      rw [h, getD_some hi] at h1
      exact Option.some.inj h1
    rw [k1 i hi, k1 _ (Nat.mod_lt _ ht)]
    congr 1
    obtain ⟨q, hq⟩ : ∃ q, t.length = s * q := ⟨t.length / s, by rw [Nat.mul_comm]; exact e2.symm⟩
    rw [hq, Nat.mod_mul_right_mod, Nat.add_mod_right]
  · intro r
    apply List.ext_getElem?
    intro i
    by_cases hi : i < t.length
    · rw [part_get hs hl hd i hi, getD_some hi, rot_part hs hd ht r i hi]
    · rw [List.getElem?_eq_none (by rw [rep_length, e, e2]; omega), List.getElem?_eq_none (by omega)]

/-! ### the head gone backwards -/
/-- so many of the last signs of the head are as the turn u, gone backwards, has them, and no more -/
structure Alike (h u : List Bool) (a : Nat) : Prop where
  le : a ≤ h.length
  same : ∀ j, j < a → h.getD (h.length - 1 - j) false = u.getD (u.length - 1 - j % u.length) false
  last : a = h.length ∨ h.getD (h.length - 1 - a) false ≠ u.getD (u.length - 1 - a % u.length) false
/-- the row of u, begun anywhere -/
def gg (h u : List Bool) (n : Nat) : Bool := u.getD ((n + h.length * u.length - h.length) % u.length) false
theorem sub_mod_id {s j A : Nat} (hs : 0 < s) (hj : j < A) : (A * s - 1 - j) % s = s - 1 - j % s := by
  have hm := Nat.mod_lt j hs
  have h1 := Nat.mod_add_div j s
  have hq : j / s < A := Nat.lt_of_le_of_lt (Nat.div_le_self j s) hj
  obtain ⟨c, hc⟩ : ∃ c, A = j / s + 1 + c := ⟨A - j / s - 1, by omega⟩
  have e : A * s - 1 - j = (s - 1 - j % s) + s * c := by
    rw [hc, Nat.add_mul, Nat.add_mul, Nat.one_mul, Nat.mul_comm c s, Nat.mul_comm (j / s) s]
    omega
  rw [e, Nat.add_mul_mod_self_left, Nat.mod_eq_of_lt (by omega)]
theorem mul_ge {A s : Nat} (hs : 0 < s) : A ≤ A * s := Nat.le_mul_of_pos_right A hs
theorem gg_head {h u : List Bool} {j : Nat} (hu : 0 < u.length) (hj : j < h.length) : gg h u (h.length - 1 - j) = u.getD (u.length - 1 - j % u.length) false := by
  unfold gg
  congr 1
  rw [← sub_mod_id hu hj]
  congr 1
  have := mul_ge (A := h.length) hu
  omega
theorem gg_add {h u : List Bool} (hu : 0 < u.length) (n : Nat) : gg h u (n + u.length) = gg h u n := by
  unfold gg
  congr 1
  have := mul_ge (A := h.length) hu
  rw [show n + u.length + h.length * u.length - h.length = (n + h.length * u.length - h.length) + u.length by omega, Nat.add_mod_right]
section
variable {h t : List Bool} {s a : Nat}
theorem take_len (p : IsPer t s) : (t.take s).length = s := by rw [List.length_take]; exact Nat.min_eq_left p.le
theorem take_getD {i : Nat} (hi : i < s) : (t.take s).getD i false = t.getD i false := by
  rw [List.getD_eq_getElem?_getD, List.getD_eq_getElem?_getD, List.getElem?_take, if_pos hi]
theorem sg_gg (p : IsPer t s) (x : Alike h (t.take s) a) {n : Nat} (hn : h.length - a ≤ n) : sg h t n = gg h (t.take s) n := by
  have hu : 0 < (t.take s).length := by rw [take_len p]; exact p.pos
  have ht : 0 < t.length := Nat.lt_of_lt_of_le p.pos p.le
  by_cases hh : n < h.length
  · obtain ⟨j, hj⟩ : ∃ j, n = h.length - 1 - j ∧ j < h.length := ⟨h.length - 1 - n, by omega, by omega⟩
    obtain ⟨rfl, hj2⟩ := hj
    rw [sg_head hh, gg_head hu hj2, x.same j (by omega)]
  · rw [sg_turn (by omega)]
    unfold gg
    rw [take_len p]
    rw [take_getD (Nat.mod_lt _ p.pos)]
    rw [rot_part p.pos p.dvd ht p.rot _ (Nat.mod_lt _ ht)]
    congr 1
    obtain ⟨q, hq⟩ : ∃ q, t.length = s * q := ⟨t.length / s, by
      have := Nat.mod_add_div t.length s
      have hd := p.dvd
      omega⟩
    rw [hq, Nat.mod_mul_right_mod]
    have hge := mul_ge (A := h.length) p.pos
    rw [show n + h.length * s - h.length = (n - h.length) + h.length * s by omega, Nat.add_mul_mod_self_right]
theorem beg_of (p : IsPer t s) (x : Alike h (t.take s) a) : IsBeg h t s (h.length - a) := by
  have hu : 0 < (t.take s).length := by rw [take_len p]; exact p.pos
  have hle := x.le
  refine ⟨Nat.sub_le _ _, fun n h1 h2 => ?_, ?_⟩
  · rw [sg_gg p x h1, sg_gg p x (by omega)]
    have := gg_add (h := h) hu n
    rw [take_len p] at this
    exact this.symm
  · rcases x.last with e | e
    · exact .inl (by omega)
    · by_cases h0 : a = h.length
      · exact .inl (by omega)
      · refine .inr fun z => e ?_
        have ha : a < h.length := by omega
        rw [sg_head (by omega), sg_gg p x (n := h.length - a - 1 + s) (by have := p.pos; omega)] at z
        have g1 := gg_add (h := h) hu (h.length - a - 1)
        rw [take_len p] at g1
        rw [g1, show h.length - a - 1 = h.length - 1 - a by omega, gg_head hu ha] at z
        exact z
theorem win_of (p : IsPer t s) (x : Alike h (t.take s) a) :
    (t.take s).drop (s - a % s) ++ (t.take s).take (s - a % s) = rng (sg h t) (h.length - a) s := by
  have hl := take_len p
  have hle := x.le
  have hm := Nat.mod_lt a p.pos
  have hg : ∀ i, i < s → sg h t (h.length - a + i) = gg h (t.take s) (h.length - a + i) := fun i _ => sg_gg p x (by omega)
  unfold gg at hg
  rw [hl] at hg
  have hge := mul_ge (A := h.length) p.pos
  have ha := Nat.mod_add_div a s
  have hq : a / s ≤ h.length := Nat.le_trans (Nat.div_le_self a s) hle
  have hqs : a / s ≤ s * (a / s) := by
    rw [Nat.mul_comm]
    exact mul_ge p.pos
  obtain ⟨c, hc⟩ : ∃ c, h.length = a / s + c := ⟨h.length - a / s, by omega⟩
  have e0 : h.length * s = s * (a / s) + s * c := by
    conv => lhs; rw [hc]
    rw [Nat.add_mul, Nat.mul_comm (a / s) s, Nat.mul_comm c s]
  generalize hlu : t.take s = u at *
  generalize a / s = q at *
  generalize a % s = ρ at *
  generalize h.length * s = A at *
  refine ext_rng (by rw [List.length_append, List.length_drop, List.length_take, hl]; omega) fun i hi => ?_
  rw [hg i hi]
  have e1 : h.length - a + i + A - h.length = s * c + i - ρ := by omega
  rw [e1]
  by_cases h1 : i < ρ
  · rw [List.getElem?_append_left (by rw [List.length_drop, hl]; omega), List.getElem?_drop, getD_some (by rw [hl]; omega)]
    congr 2
    have hc0 : c ≠ 0 := by
      rintro rfl
      rw [Nat.mul_zero] at e0
      omega
    obtain ⟨d, rfl⟩ : ∃ d, c = d + 1 := ⟨c - 1, by omega⟩
    have e5 : s * (d + 1) = s * d + s := Nat.mul_succ s d
    rw [show s * (d + 1) + i - ρ = (s - ρ + i) + s * d by omega, Nat.add_mul_mod_self_left, Nat.mod_eq_of_lt (by omega)]
  · rw [List.getElem?_append_right (by rw [List.length_drop, hl]; omega), List.length_drop, hl, List.getElem?_take, if_pos (by omega), getD_some (by rw [hl]; omega)]
    congr 2
    rw [show s * c + i - ρ = (i - ρ) + s * c by omega, Nat.add_mul_mod_self_left, Nat.mod_eq_of_lt (by omega)]
    omega
theorem head_of (hm : a ≤ h.length) : h.take (h.length - a) = rng (sg h t) 0 (h.length - a) := by
  refine ext_rng (by rw [List.length_take]; omega) fun i hi => ?_
  rw [List.getElem?_take, if_pos hi, Nat.zero_add, sg_head (by omega), getD_some (by omega)]
end
end Row
/-! str.find from a place; the least form by turning on and by halving -/
namespace Row
open G1 PySem PySem.StrLaws PySem.Builtin PySem.Builtin.Str
theorem occ_full (s sub : Str) (hi : Nat) : ∀ (l : List Nat) (st : Array Nat × Nat), 1 ≤ st.fst.size → (forIn l st (occBody s sub hi 1)).run.fst = st.fst
  | [], st, h => rfl
  | a :: l, st, h => by
    rw [List.forIn_cons]
    unfold occBody
    rw [if_neg (fun c => by have := c.1.1.1; omega)]
    exact occ_full s sub hi l _ h
theorem occ_first (s sub : Str) (hi : Nat) : ∀ (n lo free k : Nat), free ≤ lo → lo ≤ k → k < lo + n → (k + sub.length ≤ hi ∧ subAt s sub k = true) →
    (∀ j, lo ≤ j → j < k → ¬ (j + sub.length ≤ hi ∧ subAt s sub j = true)) →
    (forIn (List.range' lo n) ((#[] : Array Nat), free) (occBody s sub hi 1)).run.fst.toList = [k]
  | 0, lo, free, k, _, h1, h2, _, _ => by omega
  | n + 1, lo, free, k, hf, h1, h2, hm, hl => by
    rw [List.range'_succ, List.forIn_cons]
    unfold occBody
    by_cases hk : k = lo
    · subst hk
      have c1 : ((((#[] : Array Nat), free).fst.size < 1 ∧ ((#[] : Array Nat), free).snd ≤ k) ∧ k + sub.length ≤ hi) ∧ subAt s sub k = true := ⟨⟨⟨by simp, hf⟩, hm.1⟩, hm.2⟩
      rw [if_pos c1]
      have h3 := occ_full s sub hi (List.range' (k + 1) n) (((#[] : Array Nat)).push k, k + sub.length) (by simp)
      have h4 : (forIn (List.range' (k + 1) n) (((#[] : Array Nat)).push k, k + sub.length) (occBody s sub hi 1)).run.fst.toList = [k] := by rw [h3]; rfl
      exact h4
    · have c2 : ¬ (((((#[] : Array Nat), free).fst.size < 1 ∧ ((#[] : Array Nat), free).snd ≤ lo) ∧ lo + sub.length ≤ hi) ∧ subAt s sub lo = true) := fun c => hl lo (Nat.le_refl _) (by omega) ⟨c.1.2, c.2⟩
      rw [if_neg c2]
      exact occ_first s sub hi n (lo + 1) free k (by omega) (by omega) (by omega) hm fun j j1 j2 => hl j (by omega) j2
theorem subAt_B (x y : List Bool) (k : Nat) : subAt (B x) (B y) k = true ↔ (x.drop k).take y.length = y := by
  rw [subAt_eq]
  rw [B_len, B_cps, B_cps, beq_iff_eq, ← List.map_drop, ← List.map_take]
  exact ⟨map_cB_inj, fun h => by rw [h]⟩
theorem find3_of {x y : List Bool} {s : Nat} (h1 : 1 ≤ s) (hs : s + y.length ≤ x.length) (hm : (x.drop s).take y.length = y) (hl : ∀ k, 1 ≤ k → k < s → (x.drop k).take y.length ≠ y) :
    Txt.find3 (B x) (B y) 1 = (s : Int) := by
  unfold Txt.find3
  have e : occurrences (B x) (B y) (fromIndex (B x).length 1) (B x).length 1 = [s] := by
    rw [occ_eq]
    have e1 : fromIndex (B x).length 1 = 1 := rfl
    rw [e1]
    refine occ_first (B x) (B y) (B x).length _ 1 1 s (Nat.le_refl _) h1 (by rw [B_len]; omega) ⟨by rw [B_len, B_len]; exact hs, (subAt_B x y s).mpr hm⟩ fun j j1 j2 c => ?_
    exact hl j j1 j2 ((subAt_B x y j).mp c.2)
  rw [e]
theorem twice_get {t : List Bool} {k : Nat} (hk : k ≤ t.length) {i : Nat} (hi : i < t.length) : (((t ++ t).drop k).take t.length)[i]? = some (t.getD ((i + k) % t.length) false) := by
  rw [List.getElem?_take, if_pos hi, List.getElem?_drop]
  by_cases h : k + i < t.length
  · rw [List.getElem?_append_left h, getD_some h, Nat.add_comm i k, Nat.mod_eq_of_lt h]
  · rw [List.getElem?_append_right (by omega), getD_some (by omega), Nat.add_comm i k]
    congr 2
    rw [Nat.mod_eq_sub_mod (by omega), Nat.mod_eq_of_lt (by omega)]
theorem twice_rot {t : List Bool} {k : Nat} (hk : k ≤ t.length) : ((t ++ t).drop k).take t.length = t ↔ Rot t k := by
  constructor
  · intro h i hi
    have h1 := twice_get hk hi
    rw [h, getD_some hi] at h1
    exact Option.some.inj h1
  · intro r
    apply List.ext_getElem?
    intro i
    by_cases hi : i < t.length
    · rw [twice_get hk hi, getD_some hi, r i hi]
    · rw [List.getElem?_eq_none (by rw [List.length_take, List.length_drop, List.length_append]; omega), List.getElem?_eq_none (by omega)]
/-- (t + t).find(t, 1) -/
theorem find_per {t : List Bool} {s : Nat} (p : IsPer t s) : Txt.find3 (B (t ++ t)) (B t) 1 = (s : Int) := by
  have hle := p.le
  refine find3_of p.pos (by rw [List.length_append]; omega) ((twice_rot hle).mpr p.rot) fun k k1 k2 h => ?_
  exact p.least k k1 k2 ((twice_rot (by omega)).mp h)

/-! ### halving -/
/-- the row of a head and its turn twice -/
theorem row2_get {h t : List Bool} {i : Nat} (hi : i < h.length + t.length + t.length) : (h ++ t ++ t)[i]? = some (sg h t i) := by
  by_cases h1 : i < h.length
  · rw [List.append_assoc, List.getElem?_append_left h1, sg_head h1, getD_some h1]
  · rw [sg_turn (by omega), List.append_assoc, List.getElem?_append_right (by omega)]
    have ht : 0 < t.length := by omega
    by_cases h2 : i - h.length < t.length
    · rw [List.getElem?_append_left h2, getD_some h2, Nat.mod_eq_of_lt h2]
    · rw [List.getElem?_append_right (by omega), getD_some (by omega)]
      congr 2
      rw [Nat.mod_eq_sub_mod (by omega), Nat.mod_eq_of_lt (by omega)]
/-- what a turn of the halving asks -/
theorem half_iff {h t : List Bool} {s m : Nat} (hs : s ≤ t.length) (hm : m ≤ h.length) :
    ((h ++ t ++ t).take h.length).drop m = ((h ++ t ++ t).take (h.length + s)).drop (m + s) ↔ ∀ n, m ≤ n → n < h.length → sg h t n = sg h t (n + s) := by
  constructor
  · intro e n h1 h2
    have e2 := congrArg (fun l => l[n - m]?) e
    simp only [List.getElem?_drop, List.getElem?_take] at e2
    rw [if_pos (by omega), if_pos (by omega), row2_get (by omega), row2_get (by omega)] at e2
    have e3 := Option.some.inj e2
    rw [show m + (n - m) = n by omega, show m + s + (n - m) = n + s by omega] at e3
    exact e3
  · intro a
    apply List.ext_getElem?
    intro i
    rw [List.getElem?_drop, List.getElem?_drop, List.getElem?_take, List.getElem?_take]
    by_cases h1 : m + i < h.length
    · rw [if_pos h1, if_pos (by omega), row2_get (by omega), row2_get (by omega), a (m + i) (by omega) h1]
      congr 2
      omega
    · rw [if_neg h1, if_neg (by omega)]
/-- between low and high the place lies -/
structure Half (h t : List Bool) (s lo hi : Nat) : Prop where
  le : lo ≤ hi
  top : hi ≤ h.length
  same : ∀ n, hi ≤ n → n < h.length → sg h t n = sg h t (n + s)
  low : ∀ m, m < lo → ∃ n, m ≤ n ∧ n < h.length ∧ sg h t n ≠ sg h t (n + s)
theorem Half.beg {h t : List Bool} {s lo hi : Nat} (x : Half h t s lo hi) (e : lo = hi) : IsBeg h t s hi := by
  subst e
  refine ⟨x.top, x.same, ?_⟩
  rcases Nat.eq_zero_or_pos lo with z | z
  · exact .inl z
  · refine .inr fun c => ?_
    obtain ⟨n, h1, h2, h3⟩ := x.low (lo - 1) (by omega)
    by_cases e : n = lo - 1
    · subst e
      exact h3 c
    · exact h3 (x.same n (by omega) h2)
theorem beg_exists {h t : List Bool} {s : Nat} : ∃ m, IsBeg h t s m := by
  have key : ∀ d, d ≤ h.length → (∀ n, h.length - d ≤ n → n < h.length → sg h t n = sg h t (n + s)) → ∃ m, IsBeg h t s m := by
    intro d
    induction hk : h.length - d generalizing d with
    | zero => exact fun h1 h2 => ⟨0, Nat.zero_le _, fun n a b => h2 n a b, .inl rfl⟩
    | succ k ih =>
      intro h1 h2
      by_cases c : sg h t k = sg h t (k + s)
      · refine ih (d + 1) (by omega) (by omega) fun n a b => ?_
        by_cases e : n = k
        · subst e; exact c
        · exact h2 n (by omega) b
      · exact ⟨k + 1, by omega, h2, .inr c⟩
  exact key 0 (Nat.zero_le _) fun n a b => by omega
theorem rng_take {h t : List Bool} {m : Nat} (hm : m ≤ h.length + t.length + t.length) : (h ++ t ++ t).take m = rng (sg h t) 0 m := by
  refine ext_rng (by rw [List.length_take, List.length_append, List.length_append]; omega) fun i hi => ?_
  rw [List.getElem?_take, if_pos hi, row2_get (by omega), Nat.zero_add]
theorem rng_mid {h t : List Bool} {m s : Nat} (hm : m + s ≤ h.length + t.length + t.length) : ((h ++ t ++ t).take (m + s)).drop m = rng (sg h t) m s := by
  refine ext_rng (by rw [List.length_drop, List.length_take, List.length_append, List.length_append]; omega) fun i hi => ?_
  rw [List.getElem?_drop, List.getElem?_take, if_pos (by omega), row2_get (by omega)]
/-- the first so many signs -/
theorem row_take {h t : List Bool} {k m : Nat} (ht : 0 < t.length) (hm : m ≤ h.length + k * t.length) : (h ++ rep k t).take m = rng (sg h t) 0 m := by
  refine ext_rng (by rw [List.length_take, List.length_append, rep_length]; omega) fun i hi => ?_
  rw [List.getElem?_take, if_pos hi, Nat.zero_add]
  by_cases h1 : i < h.length
  · rw [List.getElem?_append_left h1, sg_head h1, getD_some h1]
  · rw [List.getElem?_append_right (by omega), rep_get _ _ _ (by omega), sg_turn (by omega), getD_some (Nat.mod_lt _ ht)]
end Row
namespace Row
theorem less_ok {h t : List Bool} {n : Int} (n0 : 0 ≤ n) (t0 : 0 < t.length) :
    0 ≤ n - (if n - (h.length : Int) > 0 then n - (h.length : Int) else 0) / (t.length : Int) * (t.length : Int) ∧
    sg h t (n - (if n - (h.length : Int) > 0 then n - (h.length : Int) else 0) / (t.length : Int) * (t.length : Int)).toNat = sg h t n.toNat := by
  by_cases hn : n - (h.length : Int) > 0
  · rw [if_pos hn]
    obtain ⟨k, hk⟩ : ∃ k, k = (n.toNat - h.length) / t.length := ⟨_, rfl⟩
    have e : (n - (h.length : Int)) / (t.length : Int) = (k : Int) := by
      rw [hk, Int.natCast_ediv]
      congr 1
      omega
    have hm := Nat.div_mul_le_self (n.toNat - h.length) t.length
    rw [← hk] at hm
    rw [e]
    have hc : (k : Int) * (t.length : Int) = ((k * t.length : Nat) : Int) := (Int.natCast_mul _ _).symm
    rw [hc]
    refine ⟨by omega, ?_⟩
    have e2 : (n - ((k * t.length : Nat) : Int)).toNat = n.toNat - k * t.length := by omega
    rw [e2]
    exact sg_back _ _ (by omega)
  · rw [if_neg hn]
    have e : (0 : Int) / (t.length : Int) * (t.length : Int) = 0 := by rw [Int.zero_ediv, Int.zero_mul]
    rw [e, Int.sub_zero]
    exact ⟨n0, rfl⟩
end Row
/-! least tables written otherwise -/
namespace Row
open G1
theorem row_mid {h t : List Bool} {k m s : Nat} (ht : 0 < t.length) (hm : m + s ≤ h.length + k * t.length) : ((h ++ rep k t).take (m + s)).drop m = rng (sg h t) m s := by
  rw [row_take ht hm]
  refine ext_rng (by rw [List.length_drop, rng_len]; omega) fun i hi => ?_
  rw [List.getElem?_drop, rng_get _ _ _ _ (by omega), Nat.zero_add]
/-- the turn can't be shortened, the head does not go on by it -/
structure Prim (h u : List Bool) : Prop where
  per : IsPer u u.length
  last : h.length = 0 ∨ h.getD (h.length - 1) false ≠ u.getD (u.length - 1) false
theorem Prim.pos {h u : List Bool} (x : Prim h u) : 0 < u.length := x.per.pos
theorem Prim.beg {h u : List Bool} (x : Prim h u) : IsBeg h u u.length h.length := by
  refine ⟨Nat.le_refl _, fun n a b => by omega, ?_⟩
  rcases x.last with e | e
  · exact .inl e
  · by_cases h0 : h.length = 0
    · exact .inl h0
    · refine .inr fun z => e ?_
      have hp := x.pos
      rw [sg_head (by omega), sg_turn (by omega), show h.length - 1 + u.length - h.length = u.length - 1 by omega, Nat.mod_eq_of_lt (by omega)] at z
      exact z
theorem Prim.head {h u : List Bool} : rng (sg h u) 0 h.length = h :=
  (ext_rng (a := 0) rfl fun i hi => by rw [Nat.zero_add, sg_head hi, getD_some hi]).symm
theorem Prim.turn {h u : List Bool} : rng (sg h u) h.length u.length = u :=
  (ext_rng (a := h.length) rfl fun i hi => by rw [sg_turn (by omega), show h.length + i - h.length = i by omega, Nat.mod_eq_of_lt hi, getD_some hi]).symm
theorem rep_getD {l : List Bool} {k i : Nat} (hi : i < k * l.length) (hl : 0 < l.length) : (rep k l).getD i false = l.getD (i % l.length) false := by
  rw [List.getD_eq_getElem?_getD, rep_get _ _ _ hi, List.getD_eq_getElem?_getD]
section
variable {h u : List Bool} {M k : Nat}
/-- a sign of the turn that is turned on and repeated -/
theorem wr_getD (hu : 0 < u.length) {i : Nat} (hi : i < k * u.length) : (rep k (rng (sg h u) M u.length)).getD i false = sg h u (M + i % u.length) := by
  rw [rep_getD (by rw [rng_len]; exact hi) (by rw [rng_len]; exact hu), rng_len, rng_getD _ _ _ _ (Nat.mod_lt _ hu)]
theorem wr_len : (rep k (rng (sg h u) M u.length)).length = k * u.length := by rw [rep_length, rng_len]
theorem sg_mul (hu : 0 < u.length) {n j : Nat} (hn : h.length ≤ n) : sg h u (n + u.length * j) = sg h u n := by
  rw [sg_turn (by omega), sg_turn hn, show n + u.length * j - h.length = (n - h.length) + u.length * j by omega, Nat.add_mul_mod_self_left]
theorem sg_mod (hu : 0 < u.length) (hM : h.length ≤ M) (i : Nat) : sg h u (M + i % u.length) = sg h u (M + i) := by
  have e : M + i = (M + i % u.length) + u.length * (i / u.length) := by
    have := Nat.mod_add_div i u.length
    omega
  rw [e, sg_mul hu (by omega)]
theorem wr_sg (hu : 0 < u.length) (hM : h.length ≤ M) (hk : 1 ≤ k) : sg (rng (sg h u) 0 M) (rep k (rng (sg h u) M u.length)) = sg h u := by
  funext n
  have hkl : 0 < k * u.length := Nat.mul_pos hk hu
  by_cases hn : n < M
  · rw [sg_head (by rw [rng_len]; exact hn), rng_getD _ _ _ _ hn, Nat.zero_add]
  · rw [sg_turn (by rw [rng_len]; omega), rng_len, wr_len, wr_getD hu (Nat.mod_lt _ hkl), Nat.mul_comm, Nat.mod_mul_right_mod, sg_mod hu hM]
    congr 1
    omega
theorem wr_per (x : IsPer u u.length) (hM : h.length ≤ M) (hk : 1 ≤ k) : IsPer (rep k (rng (sg h u) M u.length)) u.length := by
  have hu : 0 < u.length := x.pos
  have hkl : u.length ≤ k * u.length := Nat.le_mul_of_pos_left _ hk
  refine ⟨hu, by rw [wr_len]; exact hkl, fun i hi => ?_, fun j j1 j2 r => ?_⟩
  · rw [wr_len] at hi ⊢
    rw [wr_getD hu hi, wr_getD hu (Nat.mod_lt _ (by omega)), Nat.mul_comm, Nat.mod_mul_right_mod, Nat.add_mod_right]
  · refine x.least j j1 j2 fun i hi => ?_
    -- the place in the repeated turn that stands for i
    obtain ⟨a, ha⟩ : ∃ a, a = (i + u.length - (M - h.length) % u.length) % u.length := ⟨_, rfl⟩
    have al : a < u.length := by rw [ha]; exact Nat.mod_lt _ hu
    have hb := Nat.mod_lt (M - h.length) hu
    have e2 : ((M - h.length) + a) % u.length = i := by
      have hd := Nat.mod_add_div (M - h.length) u.length
      rw [ha, Nat.add_mod_mod]
      rw [show M - h.length + (i + u.length - (M - h.length) % u.length) = (i + u.length) + u.length * ((M - h.length) / u.length) by omega]
      rw [Nat.add_mul_mod_self_left, Nat.add_mod_right, Nat.mod_eq_of_lt hi]
    have key : ∀ c, sg h u (M + (a + c)) = u.getD ((i + c) % u.length) false := fun c => by
      rw [sg_turn (by omega)]
      congr 1
      rw [show M + (a + c) - h.length = ((M - h.length) + a) + c by omega, ← Nat.mod_add_mod, e2]
    have r2 := r a (by rw [wr_len]; omega)
    rw [wr_len, wr_getD hu (by omega), wr_getD hu (Nat.mod_lt _ (by omega)), Nat.mul_comm k, Nat.mod_mul_right_mod, sg_mod hu hM, sg_mod hu hM] at r2
    have k0 := key 0
    rw [Nat.add_zero, Nat.add_zero, Nat.mod_eq_of_lt hi] at k0
    rw [← k0, r2, key j]
theorem wr_beg (x : Prim h u) (hM : h.length ≤ M) (hk : 1 ≤ k) : IsBeg (rng (sg h u) 0 M) (rep k (rng (sg h u) M u.length)) u.length h.length := by
  have e := wr_sg (k := k) x.pos hM hk
  refine ⟨by rw [rng_len]; exact hM, fun n a b => ?_, ?_⟩
  · rw [e]
    exact sg_rot x.pos (rot_len u) a
  · rw [e]
    exact x.beg.least
end
/-- the part of a turn by which it goes can't be shortened -/
theorem part_per {t : List Bool} {s : Nat} (p : IsPer t s) : IsPer (t.take s) (t.take s).length := by
  have hl := take_len p
  have hs : 0 < s := p.pos
  have ht : 0 < t.length := Nat.lt_of_lt_of_le p.pos p.le
  refine ⟨by omega, Nat.le_refl _, rot_len _, fun j j1 j2 r => ?_⟩
  rw [hl] at j2
  refine p.least j j1 j2 fun i hi => ?_
  rw [rot_part p.pos p.dvd ht p.rot i hi, rot_part p.pos p.dvd ht p.rot _ (Nat.mod_lt _ ht)]
  obtain ⟨q, hq⟩ : ∃ q, t.length = s * q := ⟨t.length / s, by
    have := Nat.mod_add_div t.length s
    have hd := p.dvd
    omega⟩
  rw [hq, Nat.mod_mul_right_mod]
  have h1 := r (i % s) (by rw [hl]; exact Nat.mod_lt _ hs)
  rw [hl, take_getD (Nat.mod_lt _ hs), take_getD (Nat.mod_lt _ hs), Nat.mod_add_mod] at h1
  exact h1
end Row
/-! two tables: one set, and where they part -/
namespace Row
open G1
theorem sg_per {h t : List Bool} (ht : 0 < t.length) {n : Nat} (hn : h.length ≤ n) : sg h t (n + t.length) = sg h t n := (sg_rot ht (rot_len t) hn).symm
/-- going on by k from some place on -/
def Goes (f : Nat → Bool) (N k : Nat) : Prop := ∀ n, N ≤ n → f n = f (n + k)
theorem goes_mul {f : Nat → Bool} {N k : Nat} (g : Goes f N k) (j : Nat) {n : Nat} (hn : N ≤ n) : f n = f (n + j * k) := by
  induction j with
  | zero => rw [Nat.zero_mul, Nat.add_zero]
  | succ j ih => rw [ih, g (n + j * k) (by omega), Nat.succ_mul, Nat.add_assoc]
theorem Goes.down {f : Nat → Bool} {N M k p : Nat} (g : Goes f N k) (hp : 0 < p) (q : Goes f M p) : Goes f M k := by
  intro n hn
  have e1 := goes_mul q N hn
  have e2 := goes_mul q N (n := n + k) (by omega)
  have hNp : N ≤ N * p := Nat.le_mul_of_pos_right _ hp
  rw [e1, e2, g (n + N * p) (by omega)]
  congr 1
  omega
theorem goes_sg {h t : List Bool} (ht : 0 < t.length) {N : Nat} (hN : h.length ≤ N) : Goes (sg h t) N t.length := fun n hn => (sg_per ht (by omega)).symm
theorem rot_iff {h t : List Bool} {k N : Nat} (ht : 0 < t.length) (hN : h.length ≤ N) : Rot t k ↔ Goes (sg h t) N k := by
  constructor
  · intro r n hn
    exact sg_rot ht r (by omega)
  · intro g i hi
    have g2 : Goes (sg h t) h.length k := Goes.down g ht (goes_sg ht (Nat.le_refl _))
    have e := g2 (h.length + i) (by omega)
    rw [sg_turn (by omega), sg_turn (by omega)] at e
    rw [show h.length + i - h.length = i by omega, Nat.mod_eq_of_lt hi, show h.length + i + k - h.length = i + k by omega] at e
    exact e
section
variable {h t h' t' : List Bool} {s s' m m' : Nat}
theorem per_uniq (e : sg h t = sg h' t') (a : IsPer t s) (b : IsPer t' s') : s = s' := by
  have ht : 0 < t.length := Nat.lt_of_lt_of_le a.pos a.le
  have ht' : 0 < t'.length := Nat.lt_of_lt_of_le b.pos b.le
  have key : ∀ k, Rot t k ↔ Rot t' k := fun k => by
    rw [rot_iff (h := h) (N := h.length + h'.length) ht (by omega), rot_iff (h := h') (N := h.length + h'.length) ht' (by omega), e]
  rcases Nat.lt_trichotomy s s' with c | c | c
  · exact absurd ((key s).mp a.rot) (b.least s a.pos c)
  · exact c
  · exact absurd ((key s').mpr b.rot) (a.least s' b.pos c)
theorem beg_uniq (e : sg h t = sg h' t') (a : IsPer t s) (x : IsBeg h t s m) (b : IsPer t' s) (y : IsBeg h' t' s m') : m = m' := by
  rcases Nat.lt_trichotomy m m' with c | c | c
  · rcases y.least with z | z
    · omega
    · have := x.from a (n := m' - 1) (by omega)
      rw [e] at this
      exact absurd this z
  · exact c
  · rcases x.least with z | z
    · omega
    · have := y.from b (n := m - 1) (by omega)
      rw [← e] at this
      exact absurd this z
/-- one set has one least table -/
theorem least_eq (a : IsPer t s) (x : IsBeg h t s m) (b : IsPer t' s') (y : IsBeg h' t' s' m') :
    (rng (sg h t) 0 m = rng (sg h' t') 0 m' ∧ rng (sg h t) m s = rng (sg h' t') m' s') ↔ sg h t = sg h' t' := by
  constructor
  · rintro ⟨e1, e2⟩
    funext n
    rw [← sg_least x a n, ← sg_least y b n, e1, e2]
  · intro e
    obtain rfl := per_uniq e a b
    obtain rfl := beg_uniq e a x b y
    rw [e]
    exact ⟨rfl, rfl⟩
end
theorem split_at {N p n : Nat} (hn : N ≤ n) (hp : 0 < p) : ∃ r j, r < p ∧ n = (N + r) + j * p := by
  refine ⟨(n - N) % p, (n - N) / p, Nat.mod_lt _ hp, ?_⟩
  have e := Nat.mod_add_div (n - N) p
  rw [Nat.mul_comm] at e
  omega
/-- as far as two rows can differ -/
theorem rows_same {f g : Nat → Bool} {N p q : Nat} (hp : 0 < p) (hq : 0 < q) (a : Goes f N p) (b : Goes g N q) (h : ∀ n, n < N + p + q → f n = g n) : f = g := by
  have key : Goes f N q := by
    intro n hn
    obtain ⟨r, j, hr, rfl⟩ := split_at hn hp
    have e1 := goes_mul a j (n := N + r) (by omega)
    have e2 := goes_mul a j (n := N + r + q) (by omega)
    rw [← e1, show N + r + j * p + q = N + r + q + j * p by omega, ← e2, h (N + r) (by omega), b (N + r) (by omega), h (N + r + q) (by omega)]
  funext n
  by_cases hn : n < N
  · exact h n (by omega)
  · obtain ⟨r, j, hr, rfl⟩ := split_at (Nat.le_of_not_lt hn) hq
    rw [← goes_mul key j (by omega), ← goes_mul b j (by omega)]
    exact h _ (by omega)
theorem sg_same {h t h' t' : List Bool} {N : Nat} (ht : 0 < t.length) (ht' : 0 < t'.length) (h1 : h.length ≤ N) (h2 : h'.length ≤ N)
    (e : ∀ n, n < N + t.length + t'.length → sg h t n = sg h' t' n) : sg h t = sg h' t' :=
  rows_same ht ht' (goes_sg ht h1) (goes_sg ht' h2) e
theorem rng_eq {f g : Nat → Bool} {n : Nat} : rng f 0 n = rng g 0 n ↔ ∀ i, i < n → f i = g i := by
  constructor
  · intro e i hi
    have e1 := rng_getD f 0 n i hi
    have e2 := rng_getD g 0 n i hi
    rw [Nat.zero_add] at e1 e2
    rw [← e1, ← e2, e]
  · intro e
    refine ext_rng (rng_len _ _ _) fun i hi => ?_
    rw [rng_get _ _ _ _ hi, Nat.zero_add, e i hi]
theorem rng_take_rng (f : Nat → Bool) {k n : Nat} (hk : k ≤ n) : (rng f 0 n).take k = rng f 0 k := by
  refine ext_rng (by rw [List.length_take, rng_len]; omega) fun i hi => ?_
  rw [List.getElem?_take, if_pos hi, rng_get _ _ _ _ (by omega)]
/-- the least number at which both differ -/
structure Parts (f g : Nat → Bool) (d : Nat) : Prop where
  ne : f d ≠ g d
  low : ∀ n, n < d → f n = g n
theorem Parts.uniq {f g : Nat → Bool} {d d' : Nat} (a : Parts f g d) (b : Parts f g d') : d = d' := by
  rcases Nat.lt_trichotomy d d' with c | c | c
  · exact absurd (b.low d c) a.ne
  · exact c
  · exact absurd (a.low d' c) b.ne
theorem Parts.symm {f g : Nat → Bool} {d : Nat} (a : Parts f g d) : Parts g f d := ⟨fun z => a.ne z.symm, fun n hn => (a.low n hn).symm⟩
theorem parts_exists {f g : Nat → Bool} {n : Nat} (h : ¬ ∀ i, i < n → f i = g i) : ∃ d, d < n ∧ Parts f g d := by
  induction n with
  | zero => exact absurd (fun i hi => absurd hi (Nat.not_lt_zero _)) h
  | succ n ih =>
    by_cases c : ∀ i, i < n → f i = g i
    · refine ⟨n, Nat.lt_succ_self _, fun z => h fun i hi => ?_, c⟩
      by_cases e : i = n
      · subst e; exact z
      · exact c i (by omega)
    · obtain ⟨d, h1, h2⟩ := ih c
      exact ⟨d, by omega, h2⟩
end Row
/-! for i, c in enumerate(text) -/
namespace G1
open PySem PySem.Spec PyProof.Rows L2
/-- the signs of x, each in a new pair with its place -/
def Ites (x : Str) : It :=
  ⟨fun i _ => i < x.cps.size, fun i H v H' => ∃ T c, v = .ref T ∧ H T = none ∧ x.cps[i]? = some c ∧ H' = upd H T (.tup [.int (i : Nat), .str ⟨#[c]⟩]), fun i _ => i = x.cps.size⟩
theorem turn_enumS {P : Program} {w : World} {K : PySem.W.Frag} {elts : List Expr} {kk : Nat} {tpos : Pos} (x : Str) (t : Tok) (e it : Addr) (hne : e ≠ it) :
    Turn P w K (.Tuple elts kk tpos) (Ites x) [e, it] e (fun i h => (∃ old, IsEnum h e it (0 + (i : Int)) old) ∧ h.IsStrIter it (strIterType x) x t i) where
  mem := by simp
  obj := fun i h st b hb => by
    obtain ⟨⟨old, he⟩, ⟨o, ho, hc, hd⟩⟩ := st
    rcases (by simpa using hb : b = e ∨ b = it) with rfl | rfl
    · exact ⟨_, he, fun v z => nomatch z⟩
    · refine ⟨o, ho, fun v z => ?_⟩
      rw [hd] at z
      cases z
  keep := fun i h h' st k => by
    obtain ⟨⟨old, he⟩, o, ho, r⟩ := st
    exact ⟨⟨old, k e (by simp) _ he⟩, o, k it (by simp) o ho, r⟩
  item := by
    intro X hX hW hKK calm i pins s σ H E I away st hg
    subst hX hW hKK
    have D := Draws.text (prog := X.prog) (w := X.w) (A := X.A.in1) (I.ok.hd calm) it x t
    have W := GoesN.enumFrom (elts := elts) (x1 := kk) (pos := tpos) 0 D e hne (by simpa using hne) (by simp)
    refine W.goes i s _ E hg st fun v h' tk hY st' hk htk => ?_
    obtain ⟨T, t', y, ev, hT, ⟨c, u, hcx, ey⟩, hO⟩ := hY
    subst ev ey
    obtain ⟨o, ho, hoc, n, hod⟩ := hO
    have new : ObjOk X.prog X.w (upd H T (.tup [.int (i : Nat), .str ⟨#[c]⟩])) h' T (.tup [.int (i : Nat), .str ⟨#[c]⟩]) :=
      ⟨by show 2 ≤ sizeLine; decide, [.int (0 + (i : Int)) t', .str ⟨#[c]⟩ u], .cons ⟨t', by rw [Int.zero_add]⟩ (.cons ⟨u, rfl⟩ .nil), ⟨o, ho, hoc, n, hod⟩⟩
    have I1 : Inv X pins σ (upd H T (.tup [.int (i : Nat), .str ⟨#[c]⟩])) { s with heap := h', toks := tk } :=
      I.turnedNew (ch := [e, it]) hk away hT new
    refine ⟨.ref T, _, I1, rfl, ⟨T, c, rfl, I.hok.fresh hT, hcx, rfl⟩, st', fun b hb => ?_⟩
    have hb' : b < s.heap.objs.size := by
      obtain ⟨⟨old, he⟩, o2, ho2, _⟩ := st
      rcases (by simpa using hb : b = e ∨ b = it) with rfl | rfl
      · exact Heap.lt_size he
      · exact Heap.lt_size ho2
    rw [upd_ne (Nat.ne_of_lt (Nat.lt_of_lt_of_le hb' hT))]
    exact (away b hb).1
  done := by
    intro X hX hW hKK calm i pins s σ H E I away st hg
    subst hX hW hKK
    replace hg : i = x.cps.size := hg
    subst hg
    have D := Draws.text (prog := X.prog) (w := X.w) (A := X.A.in1) (I.ok.hd calm) it x t
    have W := GoesN.enumFrom (elts := elts) (x1 := kk) (pos := tpos) 0 D e hne (by simpa using hne) (by simp)
    refine W.stops s _ E st fun h' tk hk htk => ?_
    exact I.turnedL (t' := tk) (ch := [e, it]) hk away
  self := fun A i s Q E st q => wpAny_pyIter_enum st.1.choose_spec q
def iEnumS (ta : TA) : TI := fun σ H R => ta σ H fun vs H1 => ∃ x, vs = [.str x] ∧ R (Ites x) H1
theorem pi_enumS {X : Cx} {e : Expr} {ta : TA} {p pos tpos : Pos} {elts : List Expr} {kk : Nat} (hg : Gl X "enumerate") (hm : X.mg "enumerate" = none) (ha : PA X [e] ta) (hs : starEach [e] X.env = [(false, eval e X.env)] := by rfl) :
    PI X (.Tuple elts kk tpos) (.Call (.Name "enumerate" p) [e] [] pos) (iEnumS ta) := by
  refine ⟨fun pn s σ H R Iv told => Call_ (ld_blt Iv hg hm boot_enumerate (PyProof.Rows.callWith_type1 (thn (ha.run pos pn s σ H _ Iv told) ?_) hs rfl))⟩
  rintro us s1 ⟨vs, H1, I1, r1, x, rfl, q⟩
  cases r1 with
  | cons r rr =>
    cases rr
    obtain ⟨t, rfl⟩ := r
    refine call_enumerate_str fun h' he hit hsz hk => wpAny_pyIter_enum he ?_
    refine ⟨s1.heap.objs.size + 1, [s1.heap.objs.size + 1, s1.heap.objs.size], _, _, H1, rfl, I1.kept (t' := s1.toks) hk, turn_enumS x t (s1.heap.objs.size + 1) s1.heap.objs.size (Nat.succ_ne_self _), ⟨⟨.none, he⟩, hit⟩, fun b hb => ?_, q⟩
    have up : s1.heap.objs.size ≤ b := by
      rcases (by simpa using hb : b = s1.heap.objs.size + 1 ∨ b = s1.heap.objs.size) with rfl | rfl
      · exact Nat.le_succ _
      · exact Nat.le_refl _
    exact I1.fpOk up (I1.hok.fresh up)
theorem lc_enumS {x : Str} {g : TG} {tt : TT} {te : TE} {vs : List Nat} {σ : L2.St} {H1 : Hp} {D : Addr} {Qd : Hp → Prop} (Pv : Nat → Hp → Prop) (h0 : Pv 0 (upd H1 D (.lst [])))
    (hs : ∀ i c T H, x.cps[i]? = some c → Pv i H → H T = none → g (.ref T) (wipe σ vs) (upd H T (.tup [.int (i : Nat), .str ⟨#[c]⟩])) fun σ2 H2 => wipe σ2 vs = wipe σ vs ∧ tt σ2 H2 fun b H3 =>
      if b = true then te σ2 H3 fun y H4 => ∃ acc, H4 D = some (.lst acc) ∧ acc.length < sizeLine ∧ Pv (i + 1) (upd H4 D (.lst (acc ++ [y]))) else Pv (i + 1) H3) (hd : ∀ H, Pv x.cps.size H → Qd H) :
    ∃ W : Nat → Nat → Hp → Prop, (∃ m, W 0 m (upd H1 D (.lst []))) ∧ ∀ i m H, W i m H →
      ((Ites x).stop i H ∧ Qd H) ∨ ((Ites x).go i H ∧ ∃ Nx : Hp → Prop, (∀ H', Nx H' → ∃ m', m' < m ∧ W (i + 1) m' H') ∧ ∀ v H', (Ites x).yld i H v H' → g v (wipe σ vs) H' fun σ2 H2 => wipe σ2 vs = wipe σ vs ∧ tt σ2 H2 fun b H3 =>
        if b = true then te σ2 H3 fun y H4 => ∃ acc, H4 D = some (.lst acc) ∧ acc.length < sizeLine ∧ Nx (upd H4 D (.lst (acc ++ [y]))) else Nx H3) := by
  refine ⟨fun i m H => m = x.cps.size - i ∧ i ≤ x.cps.size ∧ Pv i H, ⟨x.cps.size, by simp, Nat.zero_le _, h0⟩, ?_⟩
  rintro i m H ⟨rfl, hi, p⟩
  by_cases hlt : i < x.cps.size
  · refine .inr ⟨hlt, Pv (i + 1), fun H' p' => ⟨x.cps.size - (i + 1), by omega, rfl, hlt, p'⟩, fun v H' y => ?_⟩
    obtain ⟨T, c, rfl, hT, hc, rfl⟩ := y
    exact hs i c T H hc p hT
  · have e : i = x.cps.size := by omega
    subst e
    exact .inl ⟨rfl, hd H p⟩
theorem for_enumS {x : Str} {g : TG} {tb : TS} {D : Ends} {σ : L2.St} {H : Hp} (Pv : Nat → L2.St → Hp → Prop) (h0 : Pv 0 σ H)
    (hs : ∀ i c T σ H, x.cps[i]? = some c → Pv i σ H → H T = none → g (.ref T) σ (upd H T (.tup [.int (i : Nat), .str ⟨#[c]⟩])) fun σ2 H2 => tb { D with nx := Pv (i + 1), ct := Pv (i + 1), bk := D.nx } σ2 H2) (hd : ∀ σ H, Pv x.cps.size σ H → D.nx σ H) :
    ∃ W : Nat → Nat → L2.St → Hp → Prop, (∃ m, W 0 m σ H) ∧ ∀ i m σ H, W i m σ H →
      ((Ites x).stop i H ∧ D.nx σ H) ∨ ((Ites x).go i H ∧ ∃ N : L2.St → Hp → Prop, (∀ σ' H', N σ' H' → ∃ m', m' < m ∧ W (i + 1) m' σ' H') ∧ ∀ v H', (Ites x).yld i H v H' → g v σ H' fun σ2 H2 => tb { D with nx := N, ct := N, bk := D.nx } σ2 H2) := by
  refine ⟨fun i m σ H => m = x.cps.size - i ∧ i ≤ x.cps.size ∧ Pv i σ H, ⟨x.cps.size, by simp, Nat.zero_le _, h0⟩, ?_⟩
  rintro i m σ H ⟨rfl, hi, p⟩
  by_cases hlt : i < x.cps.size
  · refine .inr ⟨hlt, Pv (i + 1), fun σ' H' p' => ⟨x.cps.size - (i + 1), by omega, rfl, hlt, p'⟩, fun v H' y => ?_⟩
    obtain ⟨T, c, rfl, hT, hc, rfl⟩ := y
    exact hs i c T σ H hc p hT
  · have e : i = x.cps.size := by omega
    subst e
    exact .inl ⟨rfl, hd σ H p⟩
end G1
/-! for i, x in enumerate(tuple) -/
namespace G1
open PySem PySem.Spec PyProof.Rows L2
def enumObj (n : Addr) : Obj := { cls := .type "enumerate", data := .fields #[.none, .bool false, .ref n, rawInt 0, .none, .none] }
/-- enumerate(v) of what has an iterator -/
theorem meets_en {v : Value} {o : Obj} {Hh : Heap → Prop} (B : Begins v o Hh) : Meets (Builtin.«enumerate.__new__» ⟨[.type "enumerate", v], []⟩) (fun _ R s => Hh s.heap ∧
    R (.ok (.ret (.ref (s.heap.push o).objs.size))) { s with heap := (s.heap.push o).push (enumObj s.heap.objs.size) }) := by
  refine .of_wp fun pr ww AA RR s hyp => ?_
  obtain ⟨hp, gg, dd, tt, ss⟩ := s
  obtain ⟨h1, hyp⟩ := hyp
  have hsub := sub_enumerate
  have it : ∀ {A' : Around} {E' : Value → Shared → Prop} {Q' : Value → Shared → Prop}, Q' (.ref hp.objs.size) ⟨hp.push o, gg, dd, tt, ss⟩ → wpAny (model pr ww) A' (pyIter v) Q' E' ⟨hp, gg, dd, tt, ss⟩ := fun z => B.iter pr ww _ _ ⟨hp, gg, dd, tt, ss⟩ _ h1 z
  wp_walk using it
  refine wpAny_stack_any fun _ => wpAny_pure ?_
  split
  · rename_i cc _ _ _ _ _
    cases (cc == Value.type "enumerate") <;> (wp_walk using it; exact ⟨_, rfl, hyp⟩)
  · (wp_walk using it; exact ⟨_, rfl, hyp⟩)
theorem call_en {P : Program} {w : World} {A : Around} {E : Value → Shared → Prop} {s : Shared} {v : Value} {o : Obj} {Hh : Heap → Prop} {Q : Value → Shared → Prop} (B : Begins v o Hh) (h1 : Hh s.heap)
    (h : ∀ h', IsEnum h' (s.heap.objs.size + 1) s.heap.objs.size 0 .none → h'.get? s.heap.objs.size = some o → (∀ b x, s.heap.get? b = some x → h'.get? b = some x) → Q (.ref (s.heap.objs.size + 1)) { s with heap := h' }) :
    wpAny (model P w) A (call (.type "enumerate") [v]) Q E s := by
  refine callType_new F.called_enumerate (by decide) (F.typeCall_enumerate_1 _) (F.newCall_enumerate_1 _) (fun z => F.args_object_init_2 z _) F.entry_enumerate_new (meets_en B) ⟨h1, ?_⟩
  have z1 : (s.heap.push o).objs.size = s.heap.objs.size + 1 := Heap.size_push ..
  have e1 := Heap.get?_push_size (s.heap.push o) (o := enumObj s.heap.objs.size) rfl
  show _ ∧ _
  rw [z1]
  rw [z1] at e1
  exact ⟨⟨_, e1, rfl⟩, h _ e1 (Heap.get?_push_of_some _ (Heap.get?_push_size _ B.free)) fun b x z => Heap.get?_push_of_some _ (Heap.get?_push_of_some _ z)⟩
/-- the items of the tuple at a, each in a new pair with its place -/
def Iten (K : PySem.W.Frag) (a : Addr) : It :=
  ⟨fun i H => ∃ (xs : List V) (x : V), SqT K H a xs ∧ xs[i]? = some x, fun i H v H' => ∃ T x, v = .ref T ∧ H T = none ∧ H' = upd H T (.tup [.int (i : Nat), x]) ∧ ∀ xs, SqT K H a xs → xs[i]? = some x, fun i H => ∃ xs : List V, SqT K H a xs ∧ xs.length = i⟩
theorem turn_en {P : Program} {w : World} {K : PySem.W.Frag} {elts : List Expr} {kk : Nat} {tpos : Pos} (a e it : Addr) :
    Turn P w K (.Tuple elts kk tpos) (Iten K a) [e, it] e (fun i h => (∃ old, IsEnum h e it (0 + (i : Int)) old) ∧ h.IsTupleIter it a i ∧ e ≠ it ∧ e ≠ a ∧ a ≠ it) where
  mem := by simp
  obj := fun i h st b hb => by
    obtain ⟨⟨old, he⟩, ⟨o, ho, hc, hd⟩, _⟩ := st
    rcases (by simpa using hb : b = e ∨ b = it) with rfl | rfl
    · exact ⟨_, he, fun v z => nomatch z⟩
    · refine ⟨o, ho, fun v z => ?_⟩
      rw [hd] at z
      cases z
  keep := fun i h h' st k => by
    obtain ⟨⟨old, he⟩, hi, r⟩ := st
    exact ⟨⟨old, k e (by simp) _ he⟩, hi.at fun o q => k it (by simp) o q, r⟩
  item := by
    intro X hX hW hKK calm i pins s σ H E I away st hg
    subst hX hW hKK
    obtain ⟨he, hit, n1, n2, n3⟩ := st
    obtain ⟨xs, x, hq, hx⟩ := hg
    obtain ⟨its, rv, p, _⟩ := I.tuple hq
    obtain ⟨u, hu, ru⟩ := rv.get hx
    have D := Draws.tuple (prog := X.prog) (w := X.w) (A := X.A.in1) (I.ok.hd calm) it a n3 its.toArray
    have W := GoesN.enumFrom (elts := elts) (x1 := kk) (pos := tpos) 0 D e n1 (by simp [n1, n2]) (by simp)
    have il : i < its.toArray.size := by
      have := (List.getElem?_eq_some_iff.mp hu).1
      simpa using this
    refine W.goes i s _ E il ⟨he, hit, p⟩ fun v h' tk hY st' hk htk => ?_
    obtain ⟨T, t', y, ev, hT, hy, hO⟩ := hY
    have ey : y = u := by
      rw [List.getElem?_toArray, hu] at hy
      exact (Option.some.inj hy).symm
    subst ev ey
    obtain ⟨o, ho, hoc, n, hod⟩ := hO
    have new : ObjOk X.prog X.w (upd H T (.tup [.int (i : Nat), x])) h' T (.tup [.int (i : Nat), x]) :=
      ⟨by show 2 ≤ sizeLine; decide, [.int (0 + (i : Int)) t', y], .cons ⟨t', by rw [Int.zero_add]⟩ (.cons ru .nil), ⟨o, ho, hoc, n, hod⟩⟩
    have I1 : Inv X pins σ (upd H T (.tup [.int (i : Nat), x])) { s with heap := h', toks := tk } := I.turnedNew (ch := [e, it]) hk away hT new
    refine ⟨.ref T, _, I1, rfl, ⟨T, x, rfl, I.hok.fresh hT, rfl, fun ys hy => by rw [I.tuple_inj hy hq]; exact hx⟩, ⟨st'.1, st'.2.1, n1, n2, n3⟩, fun b hb => ?_⟩
    have hb' : b < s.heap.objs.size := by
      obtain ⟨old, he⟩ := he
      obtain ⟨o2, ho2, _⟩ := hit
      rcases (by simpa using hb : b = e ∨ b = it) with rfl | rfl
      · exact Heap.lt_size he
      · exact Heap.lt_size ho2
    rw [upd_ne (Nat.ne_of_lt (Nat.lt_of_lt_of_le hb' hT))]
    exact (away b hb).1
  done := by
    intro X hX hW hKK calm i pins s σ H E I away st hg
    subst hX hW hKK
    obtain ⟨he, hit, n1, n2, n3⟩ := st
    obtain ⟨xs, hq, hl⟩ := hg
    obtain ⟨its, rv, p, _⟩ := I.tuple hq
    have l2 := rv.length
    have D := Draws.tuple (prog := X.prog) (w := X.w) (A := X.A.in1) (I.ok.hd calm) it a n3 its.toArray
    have W := GoesN.enumFrom (elts := elts) (x1 := kk) (pos := tpos) 0 D e n1 (by simp [n1, n2]) (by simp)
    have ei : i = its.toArray.size := by
      rw [List.size_toArray]
      omega
    rw [ei] at he hit
    refine W.stops s _ E ⟨he, hit, p⟩ fun h' tk hk htk => ?_
    exact I.turnedL (t' := tk) (ch := [e, it]) hk away
  self := fun A i s Q E st q => wpAny_pyIter_enum st.1.choose_spec q
def iEnumT (K : PySem.W.Frag) (ta : TA) : TI := fun σ H R => ta σ H fun vs H1 => ∃ a xs, vs = [.ref a] ∧ SqT K H1 a xs ∧ R (Iten K a) H1
theorem pi_enumT {X : Cx} {e : Expr} {ta : TA} {p pos tpos : Pos} {elts : List Expr} {kk : Nat} (hg : Gl X "enumerate") (hm : X.mg "enumerate" = none) (ha : PA X [e] ta) (hs : starEach [e] X.env = [(false, eval e X.env)] := by rfl) :
    PI X (.Tuple elts kk tpos) (.Call (.Name "enumerate" p) [e] [] pos) (iEnumT X.K ta) := by
  refine ⟨fun pn s σ H R Iv told => Call_ (ld_blt Iv hg hm boot_enumerate (PyProof.Rows.callWith_type1 (thn (ha.run pos pn s σ H _ Iv told) ?_) hs rfl))⟩
  rintro us s1 ⟨vs, H1, I1, r1, a, xs, rfl, hq, q⟩
  cases r1 with
  | cons r rr =>
    cases rr
    cases r
    obtain ⟨its, rv, p', _⟩ := I1.tuple hq
    have la : a < s1.heap.objs.size := by
      obtain ⟨o, ho, _⟩ := p'
      exact Heap.lt_size ho
    refine call_en (begins_tuple a its.toArray) p' fun h' he hit hk => wpAny_pyIter_enum he ?_
    refine ⟨s1.heap.objs.size + 1, [s1.heap.objs.size + 1, s1.heap.objs.size], _, _, H1, rfl, I1.kept (t' := s1.toks) hk, turn_en a (s1.heap.objs.size + 1) s1.heap.objs.size, ⟨⟨.none, he⟩, ⟨_, hit, rfl, rfl⟩, Nat.succ_ne_self _, ?_, ?_⟩, fun b hb => ?_, q⟩
    · exact fun z => absurd la (by rw [← z]; exact Nat.not_lt.mpr (Nat.le_succ _))
    · exact Nat.ne_of_lt la
    · have up : s1.heap.objs.size ≤ b := by
        rcases (by simpa using hb : b = s1.heap.objs.size + 1 ∨ b = s1.heap.objs.size) with rfl | rfl
        · exact Nat.le_succ _
        · exact Nat.le_refl _
      exact I1.fpOk up (I1.hok.fresh up)
theorem lc_enumT {K : PySem.W.Frag} {a : Addr} {xs : List V} {g : TG} {tt : TT} {te : TE} {vs : List Nat} {σ : L2.St} {H1 : Hp} {D : Addr} {Qd : Hp → Prop} (Pv : Nat → Hp → Prop) (h0 : Pv 0 (upd H1 D (.lst [])))
    (hq : ∀ i H, Pv i H → SqT K H a xs)
    (hs : ∀ i x T H, xs[i]? = some x → Pv i H → H T = none → g (.ref T) (wipe σ vs) (upd H T (.tup [.int (i : Nat), x])) fun σ2 H2 => wipe σ2 vs = wipe σ vs ∧ tt σ2 H2 fun b H3 =>
      if b = true then te σ2 H3 fun y H4 => ∃ acc, H4 D = some (.lst acc) ∧ acc.length < sizeLine ∧ Pv (i + 1) (upd H4 D (.lst (acc ++ [y]))) else Pv (i + 1) H3) (hd : ∀ H, Pv xs.length H → Qd H) :
    ∃ W : Nat → Nat → Hp → Prop, (∃ m, W 0 m (upd H1 D (.lst []))) ∧ ∀ i m H, W i m H →
      ((Iten K a).stop i H ∧ Qd H) ∨ ((Iten K a).go i H ∧ ∃ Nx : Hp → Prop, (∀ H', Nx H' → ∃ m', m' < m ∧ W (i + 1) m' H') ∧ ∀ v H', (Iten K a).yld i H v H' → g v (wipe σ vs) H' fun σ2 H2 => wipe σ2 vs = wipe σ vs ∧ tt σ2 H2 fun b H3 =>
        if b = true then te σ2 H3 fun y H4 => ∃ acc, H4 D = some (.lst acc) ∧ acc.length < sizeLine ∧ Nx (upd H4 D (.lst (acc ++ [y]))) else Nx H3) := by
  refine ⟨fun i m H => m = xs.length - i ∧ i ≤ xs.length ∧ Pv i H, ⟨xs.length, by simp, Nat.zero_le _, h0⟩, ?_⟩
  rintro i m H ⟨rfl, hi, p⟩
  have sq := hq i H p
  by_cases hlt : i < xs.length
  · refine .inr ⟨⟨xs, xs[i], sq, List.getElem?_eq_getElem hlt⟩, Pv (i + 1), fun H' p' => ⟨xs.length - (i + 1), by omega, rfl, hlt, p'⟩, fun v H' y => ?_⟩
    obtain ⟨T, x, rfl, hT, rfl, hx⟩ := y
    exact hs i x T H (hx xs sq) p hT
  · have e : i = xs.length := by omega
    subst e
    exact .inl ⟨⟨xs, sq, rfl⟩, hd H p⟩
end G1
/-! zip of two texts inside enumerate: what next does -/
namespace G1
open PySem PySem.Spec PyProof.Rows L2
section
variable {P : Program} {w : World} {A : Around} {E : Value → Shared → Prop} {s : Shared} {z TI TO T i1 i2 e : Addr} {fp1 fp2 : List Addr} {n1 n2 i : Nat} {P1 P2 : Nat → Value → Prop} {St1 St2 : Nat → Heap → Prop}
/-- the inner next, from zip's own -/
theorem inner_next {Q : Value → Shared → Prop} (hT : s.TypeIs (.ref z) "zip") (h : wpAny (model P w) A.in1 (Builtin.«zip.__next__» ⟨[.ref z], []⟩) (fun fin s' => ∃ v, fin = .done (.ret v) ∧ Q v s') E s) :
    wpAny (model P w) A (Builtin.SmallTypes.nextOf (.ref z)) Q E s := by
  unfold Builtin.SmallTypes.nextOf
  refine wpAny_bind (wpAny_callSpecial?_slot (name := Str.ofString "__next__") hT F.slot_zip_next (wpAny_call_entry F.slot_zip_next hT F.entry_zip_next ?_ (F.args_zip_next_1 _)))
  refine wpAny_mono h (fun fin s' hh => ?_) fun _ _ y => y
  obtain ⟨v, ev, hq⟩ := hh
  exact ⟨v, ev, wpAny_pure hq⟩
/-- zip's next while the tuple that it gave out is there -/
theorem held_next {f : Bool} {oT : Obj} {Q : Value → Shared → Prop} (S : ZipSep2 z TI TO i1 i2 fp1 fp2) (D1 : Draws P w A i1 fp1 n1 P1 St1) (D2 : Draws P w A i2 fp2 n2 P2 St2)
    (hz : IsZipHeld s.heap z TI TO T f) (hT : s.heap.get? T = some oT) (hI : IsTupOf2 s.heap TI (.ref i1) (.ref i2)) (st1 : St1 i s.heap) (st2 : St2 i s.heap) (l1 : i < n1) (l2 : i < n2)
    (hQ : ∀ x1 x2 h' tk, P1 i x1 → P2 i x2 → IsZipHeld h' z TI TO T true → St1 (i + 1) h' → St2 (i + 1) h' → IsTupOf2 h' s.heap.objs.size x1 x2 → h'.objs.size = s.heap.objs.size + 1 →
      (∀ c o, c ≠ z → c ≠ i1 → c ≠ i2 → s.heap.get? c = some o → h'.get? c = some o) → Q (.ref s.heap.objs.size) { s with heap := h', toks := tk }) :
    wpAny (model P w) A (Builtin.«zip.__next__» ⟨[.ref z], []⟩) (fun fin s' => ∃ v, fin = .done (.ret v) ∧ Q v s') E s := by
  obtain ⟨hp, g, d, t0, os⟩ := s
  show wpAny _ _ (field (.ref z) 2 >>= _) _ _ _
  refine wpAny_bind (wpAny_field hz rfl (x := .bool false) rfl ?_)
  show wpAny _ _ (field (.ref z) 3 >>= _) _ _ _
  refine wpAny_bind (wpAny_field hz rfl (x := .ref TI) rfl (wpAny_bind (wpAny_seqItems hI rfl ?_)))
  show wpAny _ _ (Builtin.SmallTypes.ownedTupleIsFree (.ref z) >>= _) _ _ _
  refine wpAny_bind (wpAny_tupleHeld_zip hz hT fun ha hza hsa => ?_)
  replace hsa : Heap.SameBut z hp ha := hsa
  simp only [Bool.false_eq_true, if_false]
  refine wpAny_bind ?_
  rw [← Array.forIn_toList]
  simp only [List.forIn_cons, List.forIn_nil]
  refine wpAny_bind (wpAny_bind (wpAny_holding ?_))
  show wpAny _ _ (Builtin.SmallTypes.nextOf (.ref i1) >>= _) _ _ ⟨ha, g, d, t0, os⟩
  refine wpAny_bind (D1.item i _ _ _ l1 (D1.over st1 hsa S.zf1) fun x1 hb t1 q1 sn1 hsb => wpAny_pure (wpAny_pure ?_))
  replace hsb : Heap.SameBut i1 ha hb := hsb
  refine wpAny_bind (wpAny_bind (wpAny_holding ?_))
  show wpAny _ _ (Builtin.SmallTypes.nextOf (.ref i2) >>= _) _ _ ⟨hb, g, d, t1, os⟩
  refine wpAny_bind (D2.item i _ _ _ l2 (D2.over (D2.over st2 hsa S.zf2) hsb S.sep1_2) fun x2 hc t2 q2 sn2 hsc => wpAny_pure (wpAny_pure (wpAny_pure ?_)))
  replace hsc : Heap.SameBut i2 hb hc := hsc
  show wpAny _ _ (newTuple [x1, x2] >>= _) _ _ ⟨hc, g, d, t2, os⟩
  refine wpAny_bind (wpAny_newTuple (wpAny_pure ⟨_, rfl, ?_⟩))
  have size : hc.objs.size = hp.objs.size := by rw [hsc.1, hsb.1, hsa.1]
  have hzc : IsZipHeld hc z TI TO T true := hsc.extBut _ _ S.zi2 (hsb.extBut _ _ S.zi1 hza)
  have keep : ∀ c o, c ≠ z → c ≠ i1 → c ≠ i2 → hp.get? c = some o → hc.get? c = some o := fun c o c1 c2 c3 y => hsc.extBut _ _ c3 (hsb.extBut _ _ c2 (hsa.extBut _ _ c1 y))
  have up : ∀ c o, hc.get? c = some o → (hc.push { cls := .type "tuple", data := .seq #[x1, x2] }).get? c = some o := fun c o y => Heap.get?_push_of_some _ y
  have tup : IsTupOf2 (hc.push { cls := .type "tuple", data := .seq #[x1, x2] }) hc.objs.size x1 x2 := Heap.get?_push_size _ rfl
  have more : (hc.push { cls := .type "tuple", data := .seq #[x1, x2] }).objs.size = hc.objs.size + 1 := Heap.size_push ..
  show Q (.ref hc.objs.size) _
  rw [size] at tup more ⊢
  exact hQ x1 x2 _ t2 q1 q2 (up _ _ hzc) (D1.frame _ _ _ (D1.over sn1 hsc S.sep2_1) fun b _ o y => up b o y) (D2.frame _ _ _ sn2 fun b _ o y => up b o y) tup more fun c o c1 c2 c3 y => up c o (keep c o c1 c2 c3 y)
end
end G1
/-! zip of two texts inside enumerate: its end, and enumerate's next -/
namespace G1
open PySem PySem.Spec PyProof.Rows L2
section
variable {P : Program} {w : World} {A : Around} {E : Value → Shared → Prop} {s : Shared} {z TI TO T i1 i2 e it : Addr} {fp1 fp2 : List Addr} {n1 n2 i : Nat} {P1 P2 : Nat → Value → Prop} {St1 St2 : Nat → Heap → Prop}
theorem held_end {f : Bool} {oT : Obj} {Q : Fin → Shared → Prop} (S : ZipSep2 z TI TO i1 i2 fp1 fp2) (D1 : Draws P w A i1 fp1 n1 P1 St1)
    (hz : IsZipHeld s.heap z TI TO T f) (hT : s.heap.get? T = some oT) (hI : IsTupOf2 s.heap TI (.ref i1) (.ref i2)) (st1 : St1 n1 s.heap)
    (hE : ∀ h' x, IsZipHeld h' z TI TO T true → (∀ c o, c ≠ z → c ≠ i1 → s.heap.get? c = some o → h'.get? c = some o) → (∃ o, h'.get? x = some o ∧ o.cls = .type "StopIteration") → E (.ref x) { s with heap := h' }) :
    wpAny (model P w) A (Builtin.«zip.__next__» ⟨[.ref z], []⟩) Q E s := by
  obtain ⟨hp, g, d, t0, os⟩ := s
  show wpAny _ _ (field (.ref z) 2 >>= _) _ _ _
  refine wpAny_bind (wpAny_field hz rfl (x := .bool false) rfl ?_)
  show wpAny _ _ (field (.ref z) 3 >>= _) _ _ _
  refine wpAny_bind (wpAny_field hz rfl (x := .ref TI) rfl (wpAny_bind (wpAny_seqItems hI rfl ?_)))
  show wpAny _ _ (Builtin.SmallTypes.ownedTupleIsFree (.ref z) >>= _) _ _ _
  refine wpAny_bind (wpAny_tupleHeld_zip hz hT fun ha hza hsa => ?_)
  replace hsa : Heap.SameBut z hp ha := hsa
  simp only [Bool.false_eq_true, if_false]
  refine wpAny_bind ?_
  rw [← Array.forIn_toList]
  simp only [List.forIn_cons, List.forIn_nil]
  refine wpAny_bind (wpAny_bind (wpAny_holding ?_))
  show wpAny _ _ (Builtin.SmallTypes.nextOf (.ref i1) >>= _) _ _ ⟨ha, g, d, t0, os⟩
  refine wpAny_bind (D1.done ⟨ha, g, d, t0, os⟩ _ _ (D1.over st1 hsa S.zf1) fun hb x hxb hx => ?_)
  exact hE hb x (hxb _ _ S.zi1 hza) (fun c o c1 c2 y => hxb _ _ c2 (hsa.extBut _ _ c1 y)) hx
theorem inner_end {Q : Value → Shared → Prop} (hT : s.TypeIs (.ref z) "zip") (h : ∀ Q' : Fin → Shared → Prop, wpAny (model P w) A.in1 (Builtin.«zip.__next__» ⟨[.ref z], []⟩) Q' E s) :
    wpAny (model P w) A (Builtin.SmallTypes.nextOf (.ref z)) Q E s := by
  unfold Builtin.SmallTypes.nextOf
  exact wpAny_bind (wpAny_callSpecial?_slot (name := Str.ofString "__next__") hT F.slot_zip_next (wpAny_call_entry F.slot_zip_next hT F.entry_zip_next (h _) (F.args_zip_next_1 _)))
/-- enumerate's next over an iterator of any kind -/
theorem enum_next {c : Int} {old : Value} {R : Value → Heap → Prop} {Q : Option Value → Shared → Prop} (he : IsEnum s.heap e it c old)
    (hn : ∀ (Q' : Value → Shared → Prop) (E' : Value → Shared → Prop), (∀ x h' tk, R x h' → IsEnum h' e it c old → Q' x { s with heap := h', toks := tk }) → wpAny (model P w) A.in1 (Builtin.SmallTypes.nextOf (.ref it)) Q' E' s)
    (hQ : ∀ x h1 h' tk, R x h1 → IsEnumOut h' e it (c + 1) x h1.objs.size → h'.get? h1.objs.size = some { cls := .type "tuple", data := .seq #[.int c tk, x] } → h'.objs.size = h1.objs.size + 1 →
      (∀ b o, b ≠ e → h1.get? b = some o → h'.get? b = some o) → e < h1.objs.size → Q (some (.ref h1.objs.size)) { s with heap := h', toks := tk + 1 }) :
    wpAny (model P w) A (pyNext (.ref e)) Q E s := by
  have hT : s.TypeIs (.ref e) "enumerate" := ⟨_, he, rfl⟩
  obtain ⟨hp, g, d, t0, os⟩ := s
  unfold pyNext
  refine wpAny_bind (wpAny_attempt (wpAny_callSpecial?_slot (name := Str.ofString "__next__") hT F.slot_enumerate_next (wpAny_call_entry F.slot_enumerate_next hT F.entry_enumerate_next ?_ (F.args_enumerate_next_1 _))))
  show wpAny _ _ (field (.ref e) 2 >>= _) _ _ _
  refine wpAny_bind (wpAny_field he rfl (x := .ref it) rfl (wpAny_bind (hn _ _ fun x h1 t1 hR he1 => ?_)))
  show wpAny _ _ (field (.ref e) 3 >>= _) _ _ ⟨h1, g, d, t1, os⟩
  refine wpAny_bind (wpAny_field he1 rfl (x := rawInt c) rfl ?_)
  show wpAny _ _ (field (.ref e) 4 >>= _) _ _ ⟨h1, g, d, t1, os⟩
  refine wpAny_bind (wpAny_field he1 rfl (x := .none) rfl ?_)
  show wpAny _ _ (mkInt c >>= _) _ _ ⟨h1, g, d, t1, os⟩
  refine wpAny_bind (wpAny_mkInt ?_)
  show wpAny _ _ (setField (.ref e) 3 (rawInt (c + 1)) >>= _) _ _ ⟨h1, g, d, t1 + 1, os⟩
  refine wpAny_bind (wpAny_setField_rec he1 (by simp) fun h2 he2 s2 => ?_)
  replace s2 : Heap.SameBut e h1 h2 := s2
  replace he2 : IsEnum h2 e it (c + 1) old := he2
  show wpAny _ _ (setField (.ref e) 4 .none >>= _) _ _ ⟨h2, g, d, t1 + 1, os⟩
  refine wpAny_bind (wpAny_setField_rec he2 (by simp) fun h3 he3 s3 => ?_)
  replace s3 : Heap.SameBut e h2 h3 := s3
  replace he3 : IsEnum h3 e it (c + 1) old := he3
  show wpAny _ _ (newTuple [.int c t1, x] >>= _) _ _ ⟨h3, g, d, t1 + 1, os⟩
  refine wpAny_bind (wpAny_newTuple ?_)
  have sz3 : h3.objs.size = h1.objs.size := by rw [s3.1, s2.1]
  have el : e < h1.objs.size := Heap.lt_size he1
  obtain ⟨h4, e4⟩ : ∃ h4, h3.push { cls := .type "tuple", data := .seq #[.int c t1, x] } = h4 := ⟨_, rfl⟩
  have he4 : IsEnum h4 e it (c + 1) old := by rw [← e4]; exact Heap.get?_push_of_some _ he3
  have ht4 : h4.get? h1.objs.size = some { cls := .type "tuple", data := .seq #[.int c t1, x] } := by rw [← e4, ← sz3]; exact Heap.get?_push_size _ rfl
  have sz4 : h4.objs.size = h1.objs.size + 1 := by rw [← e4, Heap.size_push, sz3]
  have k4 : ∀ b o, b ≠ e → h1.get? b = some o → h4.get? b = some o := fun b o ne y => by rw [← e4]; exact Heap.get?_push_of_some _ (s3.extBut b o ne (s2.extBut b o ne y))
  show wpAny _ _ (Builtin.SmallTypes.ownedTupleIsFree (.ref e) >>= _) _ _ ⟨h3.push _, g, d, t1 + 1, os⟩
  rw [e4, sz3]
  refine wpAny_bind ?_
  unfold Builtin.SmallTypes.ownedTupleIsFree
  refine wpAny_bind (wpAny_field he4 rfl (x := .none) rfl (wpAny_pure ?_))
  simp only [if_true]
  refine wpAny_bind (wpAny_rule (wpAny_bind (wpAny_field he4 rfl (x := old) rfl ?_)))
  refine wpAny_bind (wpAny_setField_rec he4 (by simp) fun h5 he5 s5 => ?_)
  replace s5 : Heap.SameBut e h4 h5 := s5
  replace he5 : IsEnum h5 e it (c + 1) x := he5
  show wpAny _ _ (Builtin.SmallTypes.ownedTupleHandOut (.ref e) (.ref h1.objs.size) >>= _) _ _ ⟨h5, g, d, t1 + 1, os⟩
  refine wpAny_bind ?_
  unfold Builtin.SmallTypes.ownedTupleHandOut
  refine wpAny_bind (wpAny_setField_rec he5 (by simp) fun h6 he6 s6 => ?_)
  replace s6 : Heap.SameBut e h5 h6 := s6
  replace he6 : IsEnumOut h6 e it (c + 1) x h1.objs.size := he6
  refine wpAny_setField_rec he6 (by simp) fun h7 he7 s7 => ?_
  replace s7 : Heap.SameBut e h6 h7 := s7
  replace he7 : IsEnumOut h7 e it (c + 1) x h1.objs.size := he7
  have k7 : ∀ b o, b ≠ e → h4.get? b = some o → h7.get? b = some o := fun b o ne y => s7.extBut b o ne (s6.extBut b o ne (s5.extBut b o ne y))
  refine wpAny_bind (wpAny_letGo (wpAny_pure ⟨_, rfl, wpAny_pure ?_⟩))
  exact hQ x h1 h7 t1 hR he7 (k7 _ _ (Nat.ne_of_gt el) ht4) (by rw [s7.1, s6.1, s5.1, sz4]) (fun b o ne y => k7 b o ne (k4 b o ne y)) el
theorem enum_end {c : Int} {old : Value} {Q : Option Value → Shared → Prop} {R : Heap → Prop} (he : IsEnum s.heap e it c old)
    (hn : ∀ (Q' : Value → Shared → Prop) (E' : Value → Shared → Prop), (∀ h' x, R h' → (∃ o, h'.get? x = some o ∧ o.cls = .type "StopIteration") → E' (.ref x) { s with heap := h' }) → wpAny (model P w) A.in1 (Builtin.SmallTypes.nextOf (.ref it)) Q' E' s)
    (hQ : ∀ h', R h' → Q none { s with heap := h' }) : wpAny (model P w) A (pyNext (.ref e)) Q E s := by
  have hT : s.TypeIs (.ref e) "enumerate" := ⟨_, he, rfl⟩
  unfold pyNext
  refine wpAny_bind (wpAny_attempt (wpAny_callSpecial?_slot (name := Str.ofString "__next__") hT F.slot_enumerate_next (wpAny_call_entry F.slot_enumerate_next hT F.entry_enumerate_next ?_ (F.args_enumerate_next_1 _))))
  show wpAny _ _ (field (.ref e) 2 >>= _) _ _ _
  refine wpAny_bind (wpAny_field he rfl (x := .ref it) rfl (wpAny_bind (hn _ _ fun h' x hr hx => ?_)))
  obtain ⟨o, ho, hc⟩ := hx
  refine wpAny_bind (wpAny_isInstance (T := "StopIteration") (b := true) ⟨o, ho, hc⟩ isSubtype_stop ?_)
  exact wpAny_pure (hQ _ hr)
end
end G1
/-! zip of two texts inside enumerate: a turn of the loop -/
namespace G1
open PySem PySem.Spec PyProof.Rows L2
/-- zip's object ahead of its first turn, and with T given out -/
def zN (z TI TO : Addr) : Heap → Prop := fun h => IsZip h z TI TO .none
def zO (z TI TO T : Addr) : Heap → Prop := fun h => ∃ f, IsZipHeld h z TI TO T f
theorem zN_ok {P : Program} {w : World} {H : Hp} {h : Heap} {z TI TO : Addr} (hz : IsZip h z TI TO .none) : ObjOk P w H h z (.ext (zN z TI TO)) :=
  ⟨hz, ⟨_, hz⟩, fun h1 h2 a k => k _ a⟩
theorem zO_ok {P : Program} {w : World} {H : Hp} {h : Heap} {z TI TO T : Addr} {f : Bool} (hz : IsZipHeld h z TI TO T f) : ObjOk P w H h z (.ext (zO z TI TO T)) :=
  ⟨⟨f, hz⟩, ⟨_, hz⟩, fun h1 h2 ⟨g, a⟩ k => ⟨g, k _ a⟩⟩
def ZOut (z TI TO : Addr) (H : Hp) : Prop := ∃ T xs, H z = some (.ext (zO z TI TO T)) ∧ H T = some (.tup xs)
def ZAt (z TI TO : Addr) (i : Nat) (H : Hp) : Prop := (i = 0 ∧ H z = some (.ext (zN z TI TO))) ∨ ZOut z TI TO H
section
variable {X : Cx} {pins : List (Addr × Obj)} {σ : L2.St} {H : Hp} {s : Shared} {h' : Heap}
/-- cells of ours and zip's object have turned, two new tuples are laid -/
theorem _root_.L2.Inv.turnedZ {t' : Nat} {ch : List Addr} {z T T2 : Addr} {φ φ' : Heap → Prop} {xs ys : List V} (I : Inv X pins σ H s) (hz : H z = some (.ext φ))
    (k : ∀ b o, b ∉ ch → b ≠ z → s.heap.get? b = some o → h'.get? b = some o) (hf : ∀ b ∈ ch, FpOk X pins H b) (hT : s.heap.objs.size ≤ T) (hT2 : s.heap.objs.size ≤ T2) (ne : T ≠ T2)
    (newz : ∀ H', ObjOk X.prog X.w H' h' z (.ext φ')) (newT : ∀ H', ObjOk X.prog X.w H' h' T (.tup xs)) (newT2 : ∀ H', ObjOk X.prog X.w H' h' T2 (.tup ys)) :
    Inv X pins σ (upd (upd (upd H z (.ext φ')) T (.tup xs)) T2 (.tup ys)) { s with heap := h', toks := t' } := by
  have hn : H T = none := I.hok.fresh hT
  have hn2 : H T2 = none := I.hok.fresh hT2
  have zT : z ≠ T := ne_of_none hz hn
  have zT2 : z ≠ T2 := ne_of_none hz hn2
  have nit : ∀ b u, H b = some u → b ∉ ch := fun b u e y => by
    have q := (hf b y).1
    rw [q] at e; cases e
  have up : ∀ b u, b ≠ z → H b = some u → upd (upd (upd H z (.ext φ')) T (.tup xs)) T2 (.tup ys) b = some u := fun b u nz e => by
    rw [upd_ne (ne_of_none e hn2), upd_ne (ne_of_none e hn), upd_ne nz]; exact e
  have nzu : ∀ b u, u ≠ HO.ext φ → H b = some u → b ≠ z := fun b u nu e y => by rw [y, hz] at e; exact nu (Option.some.inj e).symm
  refine I.step (g' := s.gens) (d' := s.drawn) (ch := ch) (fun b hb => ⟨(hf b hb).2.2.2.1, (hf b hb).2.1, (hf b hb).2.2.2.2.1, (hf b hb).2.2.2.2.2⟩) (fun b o _ _ hc e n => k b o hc (fun y => by rw [y, hz] at n; cases n) e) (fun b o _ _ hc e n => ⟨o.slots, k b o hc (fun y => by rw [y, hz] at n; cases n) e⟩)
    (fun b o _ e n => ?_) (fun b o hc e => ?_) (fun b xs e => up b _ (nzu b _ (by intro y; cases y) e) e) (fun b o u e => up b _ (nzu b _ (by intro y; cases y) e) e) (fun b ps e => ⟨#[], ?_⟩) (fun m hm => ?_) (fun b u e => ?_) I.bare
  · rw [upd_ne (Nat.ne_of_lt (Nat.lt_of_lt_of_le (Heap.lt_size e) hT2)), upd_ne (Nat.ne_of_lt (Nat.lt_of_lt_of_le (Heap.lt_size e) hT)), upd_ne (fun y => by rw [y, hz] at n; cases n)]; exact n
  · by_cases hb : b = z
    · subst hb
      exact (newz H).2.1
    · exact ⟨o, k b o hc hb e⟩
  · rw [up b _ (nzu b _ (by intro y; cases y) e) e]; simp
  · obtain ⟨o, es, ep, ho, r⟩ := hm
    exact ⟨o, es, ep, k _ o (fun y => (hf _ y).2.1 rfl) (fun y => by have := I.free; rw [y, hz] at this; cases this) ho, r⟩
  · by_cases hb2 : b = T2
    · subst hb2
      rw [upd_same] at e
      cases e
      exact newT2 _
    · rw [upd_ne hb2] at e
      by_cases hb : b = T
      · subst hb
        rw [upd_same] at e
        cases e
        exact newT _
      · rw [upd_ne hb] at e
        by_cases hbz : b = z
        · subst hbz
          rw [upd_same] at e
          cases e
          exact newz _
        · rw [upd_ne hbz] at e
          refine (I.hok b u e).stay (fun c v hc q => k c v ?_ ?_ q) (fun c q => up c _ (nzu c _ (by intro y; cases y) q) q) fun c xs q => up c _ (nzu c _ (by intro y; cases y) q) q
          · rcases hc with y | y
            · rw [y]; exact nit b u e
            · exact nit c _ y
          · rcases hc with y | y
            · rw [y]; exact hbz
            · exact nzu c _ (by intro y; cases y) y
/-- cells of ours and zip's object have turned -/
theorem _root_.L2.Inv.turnedZ0 {t' : Nat} {ch : List Addr} {z : Addr} {φ : Heap → Prop} (I : Inv X pins σ H s) (hz : H z = some (.ext φ))
    (k : ∀ b o, b ∉ ch → b ≠ z → s.heap.get? b = some o → h'.get? b = some o) (hf : ∀ b ∈ ch, FpOk X pins H b)
    (newz : ObjOk X.prog X.w H h' z (.ext φ)) :
    Inv X pins σ H { s with heap := h', toks := t' } := by
  have nit : ∀ b u, H b = some u → b ∉ ch := fun b u e y => by
    have q := (hf b y).1
    rw [q] at e; cases e
  have nzu : ∀ b u, u ≠ HO.ext φ → H b = some u → b ≠ z := fun b u nu e y => by rw [y, hz] at e; exact nu (Option.some.inj e).symm
  refine I.step (g' := s.gens) (d' := s.drawn) (ch := ch) (fun b hb => ⟨(hf b hb).2.2.2.1, (hf b hb).2.1, (hf b hb).2.2.2.2.1, (hf b hb).2.2.2.2.2⟩) (fun b o _ _ hc e n => k b o hc (fun y => by rw [y, hz] at n; cases n) e) (fun b o _ _ hc e n => ⟨o.slots, k b o hc (fun y => by rw [y, hz] at n; cases n) e⟩)
    (fun b o _ e n => n) (fun b o hc e => ?_) (fun b xs e => e) (fun b o u e => e) (fun b ps e => ⟨#[], by rw [e]; simp⟩) (fun m hm => ?_) (fun b u e => ?_) I.bare
  · by_cases hb : b = z
    · subst hb
      exact newz.2.1
    · exact ⟨o, k b o hc hb e⟩
  · obtain ⟨o, es, ep, ho, r⟩ := hm
    exact ⟨o, es, ep, k _ o (fun y => (hf _ y).2.1 rfl) (fun y => by have := I.free; rw [y, hz] at this; cases this) ho, r⟩
  · by_cases hbz : b = z
    · subst hbz
      rw [hz] at e
      cases e
      exact newz
    · refine (I.hok b u e).stay (fun c v hc q => k c v ?_ ?_ q) (fun c q => q) fun c xs q => q
      · rcases hc with y | y
        · rw [y]; exact nit b u e
        · exact nit c _ y
      · rcases hc with y | y
        · rw [y]; exact hbz
        · exact nzu c _ (by intro y; cases y) y
end
/-- the signs of x and y beside one another, each pair in a new pair with its place -/
def Itz (x y : Str) (z TI TO : Addr) : It :=
  ⟨fun i H => i < x.cps.size ∧ i < y.cps.size ∧ ZAt z TI TO i H,
   fun i H v H' => ∃ T T2 T0 c d, v = .ref T2 ∧ H T = none ∧ H T2 = none ∧ T ≠ T2 ∧ x.cps[i]? = some c ∧ y.cps[i]? = some d ∧ (T0 = T ∨ ∃ xs, H T0 = some (.tup xs)) ∧
     H' = upd (upd (upd H z (.ext (zO z TI TO T0))) T (.tup [.str ⟨#[c]⟩, .str ⟨#[d]⟩])) T2 (.tup [.int (i : Nat), .ref T]),
   fun i H => i = x.cps.size ∧ ZOut z TI TO H⟩
def tnZ (x y : Str) (t1 t2 : Tok) (b : Addr) (i : Nat) (h : Heap) : Prop :=
  (∃ old, IsEnum h (b + 5) (b + 4) (0 + (i : Int)) old) ∧ IsTupOf2 h (b + 2) (.ref b) (.ref (b + 1)) ∧ (∃ a c, IsTupOf2 h (b + 3) a c) ∧ h.IsStrIter b (strIterType x) x t1 i ∧ h.IsStrIter (b + 1) (strIterType y) y t2 i
theorem turn_enumZ {P : Program} {w : World} {K : PySem.W.Frag} {elts : List Expr} {kk : Nat} {tpos : Pos} (x y : Str) (t1 t2 : Tok) (b : Addr) :
    Turn P w K (.Tuple elts kk tpos) (Itz x y (b + 4) (b + 2) (b + 3)) [b, b + 1, b + 2, b + 3, b + 5] (b + 5) (tnZ x y t1 t2 b) where
  mem := by simp
  obj := fun i h st a ha => by
    obtain ⟨⟨old, he⟩, h2, ⟨u, v, h3⟩, ⟨o1, q1, _, d1⟩, ⟨o2, q2, _, d2⟩⟩ := st
    rcases (by simpa using ha : a = b ∨ a = b + 1 ∨ a = b + 2 ∨ a = b + 3 ∨ a = b + 5) with rfl | rfl | rfl | rfl | rfl
    · exact ⟨o1, q1, fun v z => by rw [d1] at z; cases z⟩
    · exact ⟨o2, q2, fun v z => by rw [d2] at z; cases z⟩
    · exact ⟨_, h2, fun v z => nomatch z⟩
    · exact ⟨_, h3, fun v z => nomatch z⟩
    · exact ⟨_, he, fun v z => nomatch z⟩
  keep := fun i h h' st k => by
    obtain ⟨⟨old, he⟩, h2, ⟨u, v, h3⟩, ⟨o1, q1, r1⟩, ⟨o2, q2, r2⟩⟩ := st
    exact ⟨⟨old, k _ (by simp) _ he⟩, k _ (by simp) _ h2, ⟨u, v, k _ (by simp) _ h3⟩, ⟨o1, k _ (by simp) _ q1, r1⟩, ⟨o2, k _ (by simp) _ q2, r2⟩⟩
  item := by
    intro X hX hW hKK calm i pins s σ H E I away st hg
    subst hX hW hKK
    obtain ⟨il1, il2, za⟩ := hg
    obtain ⟨⟨old, he⟩, hTI, ⟨a1, a2, hTO⟩, st1, st2⟩ := st
    have D1 := Draws.text (prog := X.prog) (w := X.w) (A := X.A.in1.in1) (I.ok.hd calm) b x t1
    have D2 := Draws.text (prog := X.prog) (w := X.w) (A := X.A.in1.in1) (I.ok.hd calm) (b + 1) y t2
    have S : ZipSep2 (b + 4) (b + 2) (b + 3) b (b + 1) [b] [b + 1] := by constructor <;> simp
    have sz : b + 5 < s.heap.objs.size := Heap.lt_size he
    have n : ∀ (i j : Nat), i ≠ j → b + i ≠ b + j := fun i j h z => h (Nat.add_left_cancel z)
    have l : ∀ (i : Nat), i ≤ 5 → b + i < s.heap.objs.size := fun i h => Nat.lt_of_le_of_lt (Nat.add_le_add_left h b) sz
    have m : ∀ (i j : Nat), i ≤ 5 → s.heap.objs.size + j ≠ b + i := fun i j h => Nat.ne_of_gt (Nat.lt_of_lt_of_le (l i h) (Nat.le_add_right _ j))
    -- what stands behind zip's next
    let R : Value → Heap → Prop := fun v h1 => ∃ T0 f x1 x2, v = .ref s.heap.objs.size ∧ IsZipHeld h1 (b + 4) (b + 2) (b + 3) T0 f ∧ (T0 = s.heap.objs.size ∨ ∃ xs, H T0 = some (.tup xs)) ∧
      (∃ c u, x.cps[i]? = some c ∧ x1 = .str ⟨#[c]⟩ u) ∧ (∃ c u, y.cps[i]? = some c ∧ x2 = .str ⟨#[c]⟩ u) ∧ h1.IsStrIter b (strIterType x) x t1 (i + 1) ∧ h1.IsStrIter (b + 1) (strIterType y) y t2 (i + 1) ∧
      (∃ a c, IsTupOf2 h1 (b + 3) a c) ∧ IsTupOf2 h1 s.heap.objs.size x1 x2 ∧ h1.objs.size = s.heap.objs.size + 1 ∧ (∀ c o, c ≠ b + 4 → c ≠ b + 3 → c ≠ b → c ≠ b + 1 → s.heap.get? c = some o → h1.get? c = some o)
    have hzt : ∃ φ, H (b + 4) = some (.ext φ) := by
      rcases za with ⟨_, hz⟩ | ⟨T, xs, hz, hT⟩
      · exact ⟨_, hz⟩
      · exact ⟨_, hz⟩
    have hn : ∀ (Q' : Value → Shared → Prop) (E' : Value → Shared → Prop), (∀ v h' tk, R v h' → IsEnum h' (b + 5) (b + 4) (0 + (i : Int)) old → Q' v { s with heap := h', toks := tk }) → wpAny (model X.prog X.w) X.A.in1 (Builtin.SmallTypes.nextOf (.ref (b + 4))) Q' E' s := by
      intro Q' E' hQ'
      rcases za with ⟨_, hz⟩ | ⟨T, xs, hz, hT⟩
      · have zz : IsZip s.heap (b + 4) (b + 2) (b + 3) .none := (I.hok _ _ hz).1
        refine inner_next ⟨_, zz, rfl⟩ (zipD2_next_item S D1 D2 zz hTI hTO st1 st2 il1 il2 fun x1 x2 h' tk p1 p2 hz' hTO' s1' s2' ht hs hk => hQ' _ _ _ ⟨_, false, x1, x2, rfl, hz', .inl rfl, p1, p2, s1', s2', ⟨_, _, hTO'⟩, ht, hs, hk⟩ (hk _ _ (n 5 4 (by decide)) (n 5 3 (by decide)) (n 5 0 (by decide)) (n 5 1 (by decide)) he))
      · obtain ⟨f, zz⟩ : ∃ f, IsZipHeld s.heap (b + 4) (b + 2) (b + 3) T f := (I.hok _ _ hz).1
        obtain ⟨_, its, _, oT, hoT, _⟩ := I.hok _ _ hT
        refine inner_next ⟨_, zz, rfl⟩ (held_next S D1 D2 zz hoT hTI st1 st2 il1 il2 fun x1 x2 h' tk p1 p2 hz' s1' s2' ht hs hk => hQ' _ _ _ ⟨T, true, x1, x2, rfl, hz', .inr ⟨xs, hT⟩, p1, p2, s1', s2', ⟨_, _, hk _ _ (n 3 4 (by decide)) (n 3 0 (by decide)) (n 3 1 (by decide)) hTO⟩, ht, hs, fun c o c1 _ c3 c4 e => hk c o c1 c3 c4 e⟩ (hk _ _ (n 5 4 (by decide)) (n 5 0 (by decide)) (n 5 1 (by decide)) he))
    obtain ⟨φ, hzφ⟩ := hzt
    refine enum_next he hn fun v h1 h2 tk hR he2 ht2 hs2 hk2 _ => ?_
    obtain ⟨T0, f, x1, x2, rfl, hz1, hT0, ⟨c, u, hc, rfl⟩, ⟨d, u', hd, rfl⟩, s1, s2, ⟨a3, a4, hTO1⟩, ht1, hs1, hk1⟩ := hR
    refine ⟨_, rfl, wpAny_letOwnedTupleGo_enum he2 fun h3 he3 sb => ?_⟩
    replace sb : Heap.SameBut (b + 5) h2 h3 := sb
    have kk : ∀ c o, c ≠ b + 5 → h1.get? c = some o → h3.get? c = some o := fun c o ne e => sb.extBut c o ne (hk2 c o ne e)
    rw [hs1] at ht2 hs2 ⊢
    have hz3 : IsZipHeld h3 (b + 4) (b + 2) (b + 3) T0 f := kk _ _ (n 4 5 (by decide)) hz1
    have htT : IsTupOf2 h3 s.heap.objs.size (.str ⟨#[c]⟩ u) (.str ⟨#[d]⟩ u') := kk _ _ (m 5 0 (by decide)) ht1
    have htT2 := sb.extBut _ _ (m 5 1 (by decide)) ht2
    have I1 := I.turnedZ (h' := h3) (t' := tk + 1) (ch := [b, b + 1, b + 2, b + 3, b + 5]) (T := s.heap.objs.size) (T2 := s.heap.objs.size + 1) (φ' := zO (b + 4) (b + 2) (b + 3) T0) (xs := [.str ⟨#[c]⟩, .str ⟨#[d]⟩]) (ys := [.int (i : Nat), .ref s.heap.objs.size]) hzφ
      (fun a o ha hz e => kk a o (fun z => ha (by simp [z])) (hk1 a o hz (fun z => ha (by simp [z])) (fun z => ha (by simp [z])) (fun z => ha (by simp [z])) e)) away (Nat.le_refl _) (Nat.le_succ _) (Nat.ne_of_lt (Nat.lt_succ_self _))
      (fun H' => zO_ok hz3) (fun H' => ⟨by show 2 ≤ sizeLine; decide, [.str ⟨#[c]⟩ u, .str ⟨#[d]⟩ u'], .cons ⟨u, rfl⟩ (.cons ⟨u', rfl⟩ .nil), ⟨_, htT, rfl, _, rfl⟩⟩)
      (fun H' => ⟨by show 2 ≤ sizeLine; decide, [.int (0 + (i : Int)) tk, .ref s.heap.objs.size], .cons ⟨tk, by rw [Int.zero_add]⟩ (.cons rfl .nil), ⟨_, htT2, rfl, _, rfl⟩⟩)
    have hn1 : H s.heap.objs.size = none := I.hok.fresh (Nat.le_refl _)
    have hn2 : H (s.heap.objs.size + 1) = none := I.hok.fresh (Nat.le_succ _)
    show ∃ (x_1 : V) (H' : Hp), _
    refine ⟨.ref (s.heap.objs.size + 1), _, I1, rfl, ⟨s.heap.objs.size, s.heap.objs.size + 1, T0, c, d, rfl, hn1, hn2, Nat.ne_of_lt (Nat.lt_succ_self _), hc, hd, hT0, rfl⟩, ⟨⟨.ref s.heap.objs.size, ?_⟩, kk _ _ (n 2 5 (by decide)) (hk1 _ _ (n 2 4 (by decide)) (n 2 3 (by decide)) (n 2 0 (by decide)) (n 2 1 (by decide)) hTI), ⟨a3, a4, kk _ _ (n 3 5 (by decide)) hTO1⟩, ?_, ?_⟩, fun a ha => ?_⟩
    · have q : (0 + (i : Int) + 1) = 0 + ((i + 1 : Nat) : Int) := by omega
      rw [← q]
      exact he3
    · obtain ⟨o, ho, r⟩ := s1
      exact ⟨o, kk _ _ (n 0 5 (by decide)) ho, r⟩
    · obtain ⟨o, ho, r⟩ := s2
      exact ⟨o, kk _ _ (n 1 5 (by decide)) ho, r⟩
    · have az : a ≠ b + 4 ∧ a < s.heap.objs.size := by
        rcases (by simpa using ha : a = b ∨ a = b + 1 ∨ a = b + 2 ∨ a = b + 3 ∨ a = b + 5) with rfl | rfl | rfl | rfl | rfl
        · exact ⟨n 0 4 (by decide), l 0 (by decide)⟩
        · exact ⟨n 1 4 (by decide), l 1 (by decide)⟩
        · exact ⟨n 2 4 (by decide), l 2 (by decide)⟩
        · exact ⟨n 3 4 (by decide), l 3 (by decide)⟩
        · exact ⟨n 5 4 (by decide), l 5 (by decide)⟩
      rw [upd_ne (Nat.ne_of_lt (Nat.lt_succ_of_lt az.2)), upd_ne (Nat.ne_of_lt az.2), upd_ne az.1]
      exact (away a ha).1
  done := by
    intro X hX hW hKK calm i pins s σ H E I away st hg
    subst hX hW hKK
    obtain ⟨rfl, T, xs, hz, hT⟩ := hg
    obtain ⟨⟨old, he⟩, hTI, ⟨a1, a2, hTO⟩, st1, st2⟩ := st
    have D1 := Draws.text (prog := X.prog) (w := X.w) (A := X.A.in1.in1) (I.ok.hd calm) b x t1
    have S : ZipSep2 (b + 4) (b + 2) (b + 3) b (b + 1) [b] [b + 1] := by constructor <;> simp
    obtain ⟨f, zz⟩ : ∃ f, IsZipHeld s.heap (b + 4) (b + 2) (b + 3) T f := (I.hok _ _ hz).1
    obtain ⟨_, its, _, oT, hoT, _⟩ := I.hok _ _ hT
    refine enum_end (R := fun h' => (∃ f', IsZipHeld h' (b + 4) (b + 2) (b + 3) T f') ∧ ∀ c o, c ≠ b + 4 → c ≠ b → s.heap.get? c = some o → h'.get? c = some o) he ?_ ?_
    · intro Q' E' hE
      exact inner_end ⟨_, zz, rfl⟩ fun Q2 => held_end S D1 zz hoT hTI st1 fun h' e hz' hk hx => hE h' e ⟨⟨true, hz'⟩, hk⟩ hx
    · rintro h' ⟨⟨f', hz'⟩, hk⟩
      exact ⟨rfl, I.turnedZ0 (t' := s.toks) (ch := [b, b + 1, b + 2, b + 3, b + 5]) hz (fun a o ha hz e => hk a o hz (fun z => ha (by simp [z])) e) away (zO_ok hz')⟩
  self := fun A i s Q E st q => wpAny_pyIter_enum st.1.choose_spec q
end G1
/-! for number, (left, right) in enumerate(zip(text, text)) -/
namespace G1
open PySem PySem.Spec PyProof.Rows L2
theorem meets_enZ {z TI TO : Addr} : Meets (Builtin.«enumerate.__new__» ⟨[.type "enumerate", .ref z], []⟩) (fun _ R s => IsZip s.heap z TI TO .none ∧
    R (.ok (.ret (.ref s.heap.objs.size))) { s with heap := s.heap.push (enumObj z) }) := by
  refine .of_wp fun pr ww AA RR s hyp => ?_
  obtain ⟨hp, gg, dd, tt, ss⟩ := s
  obtain ⟨h1, hyp⟩ := hyp
  have hsub := sub_enumerate
  have it : ∀ {A' : Around} {E' : Value → Shared → Prop} {Q' : Value → Shared → Prop}, Q' (.ref z) ⟨hp, gg, dd, tt, ss⟩ → wpAny (model pr ww) A' (pyIter (.ref z)) Q' E' ⟨hp, gg, dd, tt, ss⟩ := fun q => wpAny_pyIter_zip h1 q
  wp_walk using it
  refine wpAny_stack_any fun _ => wpAny_pure ?_
  split
  · rename_i cc _ _ _ _ _
    cases (cc == Value.type "enumerate") <;> (wp_walk using it; exact ⟨_, rfl, hyp⟩)
  · (wp_walk using it; exact ⟨_, rfl, hyp⟩)
theorem call_enZ {P : Program} {w : World} {A : Around} {E : Value → Shared → Prop} {s : Shared} {z TI TO : Addr} {Q : Value → Shared → Prop} (h1 : IsZip s.heap z TI TO .none)
    (h : ∀ h', IsEnum h' s.heap.objs.size z 0 .none → (∀ b x, s.heap.get? b = some x → h'.get? b = some x) → Q (.ref s.heap.objs.size) { s with heap := h' }) :
    wpAny (model P w) A (call (.type "enumerate") [.ref z]) Q E s := by
  refine callType_new F.called_enumerate (by decide) (F.typeCall_enumerate_1 _) (F.newCall_enumerate_1 _) (fun z => F.args_object_init_2 z _) F.entry_enumerate_new meets_enZ ⟨h1, ?_⟩
  have e1 := Heap.get?_push_size s.heap (o := enumObj z) rfl
  show _ ∧ _
  exact ⟨⟨_, e1, rfl⟩, h _ e1 fun b x q => Heap.get?_push_of_some _ q⟩
def iEnumZ (ta : TA) : TI := fun σ H R => ta σ H fun vs H1 => ∃ x y, vs = [.str x, .str y] ∧ ∀ z TI TO, H1 z = none → R (Itz x y z TI TO) (upd H1 z (.ext (zN z TI TO)))
theorem pi_enumZ {X : Cx} {e1 e2 : Expr} {ta : TA} {p pos pz posz tpos : Pos} {elts : List Expr} {kk : Nat} (hg : Gl X "enumerate") (hm : X.mg "enumerate" = none) (hgz : Gl X "zip") (hmz : X.mg "zip" = none) (ha : PA X [e1, e2] ta)
    (h1 : starEach [e1, e2] X.env = (false, eval e1 X.env) :: starEach [e2] X.env := by rfl) (h2 : (backTo posz (starEach [e2] X.env)).any (·.1) = false := by rfl) :
    PI X (.Tuple elts kk tpos) (.Call (.Name "enumerate" p) [.Call (.Name "zip" pz) [e1, e2] [] posz] [] pos) (iEnumZ ta) := by
  refine ⟨fun pn s σ H R Iv told => Call_ (ld_blt Iv hg hm boot_enumerate (PyProof.Rows.callWith_type1 ?_ rfl rfl))⟩
  show wpAny _ _ (spliced ((false, eval (.Call (.Name "zip" pz) [e1, e2] [] posz) X.env) :: backTo pos (starEach [] X.env))) _ _ s
  refine Calls.spliced_cons (Call_ (ld_blt Iv hgz hmz boot_zip (PyProof.Rows.callWith_type1 (thn (ha.run posz pn s σ H _ Iv told) ?_) h1 h2)))
  rintro us s1 ⟨vs, H1, I1, r1, x, y, rfl, q⟩
  cases r1 with
  | cons r rr =>
    cases rr with
    | cons r2 r3 =>
      cases r3
      obtain ⟨t1, rfl⟩ := r
      obtain ⟨t2, rfl⟩ := r2
      refine zip_begins2 (begins_text x t1) (begins_text y t2) trivial trivial fun h' hz hTI hTO g1 g2 hsz hk => ?_
      refine Calls.spliced_nil ?_
      refine call_enZ (s := { s1 with heap := h' }) hz fun h2 he hk2 => wpAny_pyIter_enum he ?_
      generalize hb : s1.heap.objs.size = b at hz hTI hTO g1 g2 hsz hk he ⊢
      have hn : ∀ i, H1 (b + i) = none := fun i => I1.hok.fresh (by rw [hb]; exact Nat.le_add_right _ _)
      have I2 : Inv X pn σ (upd H1 (b + 4) (.ext (zN (b + 4) (b + 2) (b + 3)))) { s1 with heap := h2, toks := s1.toks } :=
        I1.laid (fun c o e => hk2 _ _ (hk c o e)) (by rw [hb]; exact Nat.le_add_right _ _) (zN_ok (hk2 _ _ hz))
      have he' : IsEnum h2 (b + 5) (b + 4) 0 .none := by
        have q : ({ s1 with heap := h' } : Shared).heap.objs.size = b + 5 := hsz
        rw [q] at he; exact he
      refine ⟨b + 5, [b, b + 1, b + 2, b + 3, b + 5], _, _, _, by rw [show ({ s1 with heap := h' } : Shared).heap.objs.size = b + 5 from hsz], I2, turn_enumZ x y t1 t2 b, ⟨⟨.none, he'⟩, hk2 _ _ hTI, ⟨_, _, hk2 _ _ hTO⟩, ⟨_, hk2 _ _ g1, rfl, rfl⟩, ⟨_, hk2 _ _ g2, rfl, rfl⟩⟩, fun a ha => ?_, q (b + 4) (b + 2) (b + 3) (hn 4)⟩
      have up : ∃ i, a = b + i ∧ i ≠ 4 := by
        rcases (by simpa using ha : a = b ∨ a = b + 1 ∨ a = b + 2 ∨ a = b + 3 ∨ a = b + 5) with rfl | rfl | rfl | rfl | rfl
        · exact ⟨0, rfl, by decide⟩
        · exact ⟨1, rfl, by decide⟩
        · exact ⟨2, rfl, by decide⟩
        · exact ⟨3, rfl, by decide⟩
        · exact ⟨5, rfl, by decide⟩
      obtain ⟨i, rfl, ni⟩ := up
      exact I1.fpOk (by rw [hb]; exact Nat.le_add_right _ _) (by rw [upd_ne (fun z => ni (Nat.add_left_cancel z))]; exact hn i)
/-- two texts of one size, the loop ends at the first place that body leaves -/
theorem for_enumZ {x y : Str} {z TI TO : Addr} {g : TG} {tb : TS} {D : Ends} {σ : L2.St} {H : Hp} (Pv : Nat → L2.St → Hp → Prop) (hxy : x.cps.size = y.cps.size) (hx0 : 0 < x.cps.size) (h0 : Pv 0 σ H)
    (hz : H z = some (.ext (zN z TI TO)))
    (hp : ∀ i σ H, Pv i σ H → 0 < i → ZOut z TI TO H)
    (hs : ∀ i c d T T2 T0 σ H, x.cps[i]? = some c → y.cps[i]? = some d → Pv i σ H → H T = none → H T2 = none → T ≠ T2 → z ≠ T → z ≠ T2 → (T0 = T ∨ ∃ xs, H T0 = some (.tup xs)) →
      g (.ref T2) σ (upd (upd (upd H z (.ext (zO z TI TO T0))) T (.tup [.str ⟨#[c]⟩, .str ⟨#[d]⟩])) T2 (.tup [.int (i : Nat), .ref T])) fun σ2 H2 => tb { D with nx := Pv (i + 1), ct := Pv (i + 1), bk := D.nx } σ2 H2) (h00 : ∀ σ' H', Pv 0 σ' H' → H' z = some (.ext (zN z TI TO))) (hd : ∀ σ H, Pv x.cps.size σ H → D.nx σ H) :
    ∃ W : Nat → Nat → L2.St → Hp → Prop, (∃ m, W 0 m σ H) ∧ ∀ i m σ H, W i m σ H →
      ((Itz x y z TI TO).stop i H ∧ D.nx σ H) ∨ ((Itz x y z TI TO).go i H ∧ ∃ N : L2.St → Hp → Prop, (∀ σ' H', N σ' H' → ∃ m', m' < m ∧ W (i + 1) m' σ' H') ∧ ∀ v H', (Itz x y z TI TO).yld i H v H' → g v σ H' fun σ2 H2 => tb { D with nx := N, ct := N, bk := D.nx } σ2 H2) := by
  refine ⟨fun i m σ H => m = x.cps.size - i ∧ i ≤ x.cps.size ∧ Pv i σ H, ⟨x.cps.size, by simp, Nat.zero_le _, h0⟩, ?_⟩
  rintro i m σ H ⟨rfl, hi, p⟩
  have za : ZAt z TI TO i H := by
    by_cases h : i = 0
    · subst h
      exact .inl ⟨rfl, h00 _ _ p⟩
    · exact .inr (hp _ _ _ p (Nat.pos_of_ne_zero h))
  by_cases hlt : i < x.cps.size
  · refine .inr ⟨⟨hlt, hxy ▸ hlt, za⟩, Pv (i + 1), fun σ' H' p' => ⟨x.cps.size - (i + 1), by omega, rfl, hlt, p'⟩, fun v H' yl => ?_⟩
    obtain ⟨T, T2, T0, c, d, rfl, hT, hT2, ne, hc, hd', h0', rfl⟩ := yl
    have hzs : ∃ o, H z = some o := by
      rcases za with ⟨_, q⟩ | ⟨_, _, q, _⟩
      · exact ⟨_, q⟩
      · exact ⟨_, q⟩
    obtain ⟨o, ho⟩ := hzs
    exact hs i c d T T2 T0 σ H hc hd' p hT hT2 ne (ne_of_none ho hT) (ne_of_none ho hT2) h0'
  · have e : i = x.cps.size := by omega
    subst e
    exact .inl ⟨⟨rfl, hp _ _ _ p hx0⟩, hd σ H p⟩
end G1
namespace G4
open PySem PySem.Spec PyProof.Rows L2 G1 Row
local macro_rules | `(tactic| walk_at "side") => `(tactic| first
  | assumption
  | omega
  | (constructor <;> omega)
  | rfl
  | decide
  | (dsimp only; decide)
  | (refine szl ?_; simp only [List.length_cons, List.length_nil]; omega)
  | (unfold CMul; omega)
  | (unfold CDiv; omega)
  | (unfold CPow; omega)
  | (unfold CMul; simp; done)
  | (unfold CMul; simp; omega)
  | (simp only [List.length_map, List.length_append, List.length_take, List.length_drop, rep_length, List.length_cons, List.length_nil, Nat.zero_add, Nat.mul_one]; omega))
local macro_rules | `(tactic| walk_at "go1") => `(tactic| first
  | (apply go_bit; (focus walk_at "side"); rw [B_str _ (by walk_at "side") (by walk_at "side")])
  | (apply go_lenS; (focus walk_at "side"); simp only [B_len])
  | (apply go_addS; (focus walk_at "side"); rw [B_app])
  | (apply go_mulS; (focus walk_at "side"); (focus walk_at "side"); rw [B_mul _ (by walk_at "side")])
  | (apply go_sl; (focus walk_at "side"); first | rw [B_last] | rw [B_init] | rw [B_to _ (by walk_at "side")] | rw [B_from _ (by walk_at "side")] | rw [B_mid _ (by walk_at "side") (by walk_at "side")])
  | refine ⟨_, rfl, ?_⟩
  | refine ⟨_, _, rfl, rfl, ?_⟩
  | refine ⟨_, _, _, rfl, rfl, ?_⟩
  | refine ⟨_, _, rfl, ?_⟩
  | refine ⟨_, _, _, rfl, ?_⟩
  | (apply go_tup; assumption)
  | (apply go_unl; assumption)
  | (apply go_ixL; assumption; (first | rfl | assumption))
  | (apply go_ixT; assumption; (first | rfl | assumption))
  | (apply go_lenL; assumption)
  | refine Or.inl ⟨_, rfl, ?_⟩
  | (refine And.intro ?ll ?_; (case ll => walk_at "side")))
local macro_rules | `(tactic| walk_at "go") => `(tactic| repeat (walk_at "go1"))
def topS (i : Nat) : Stmt := PySem.Challenge.pw_leastmakers_k04_where_tables_part.main.body.getD i (.Pass ⟨0, 0, 0, 0⟩)
abbrev s_least : Stmt := topS 1
abbrev nm_least : List Str := ["table", "head", "turn", "alike", "cut"]
theorem sc_least : FnScope nm_least ["table"] (defScope s_least) := ⟨rfl, rfl, rfl, by decide +kernel, rfl, by decide +kernel, by decide +kernel⟩
abbrev s_shortest : Stmt := topS 2
abbrev nm_shortest : List Str := ["turn", "many", "size"]
theorem sc_shortest : FnScope nm_shortest ["turn"] (defScope s_shortest) := ⟨rfl, rfl, rfl, by decide +kernel, rfl, by decide +kernel, by decide +kernel⟩
abbrev s_alike : Stmt := topS 3
abbrev nm_alike : List Str := ["head", "turn", "alike"]
theorem sc_alike : FnScope nm_alike ["head", "turn"] (defScope s_alike) := ⟨rfl, rfl, rfl, by decide +kernel, rfl, by decide +kernel, by decide +kernel⟩
abbrev s_signs : Stmt := topS 4
abbrev nm_signs : List Str := ["table", "many", "head", "turn", "rounds"]
theorem sc_signs : FnScope nm_signs ["table", "many"] (defScope s_signs) := ⟨rfl, rfl, rfl, by decide +kernel, rfl, by decide +kernel, by decide +kernel⟩
abbrev s_same : Stmt := topS 5
abbrev nm_same : List Str := ["one", "other"]
theorem sc_same : FnScope nm_same ["one", "other"] (defScope s_same) := ⟨rfl, rfl, rfl, by decide +kernel, rfl, by decide +kernel, by decide +kernel⟩
abbrev s_parting : Stmt := topS 6
abbrev nm_parting : List Str := ["one", "other", "many", "number", "left", "right"]
theorem sc_parting : FnScope nm_parting ["one", "other"] (defScope s_parting) := ⟨rfl, rfl, rfl, by decide +kernel, rfl, by decide +kernel, by decide +kernel⟩
abbrev s_well : Stmt := topS 8
abbrev nm_well : List Str := ["_law_script", "_law_great", "_law_cells", "_law_cell"]
theorem sc_well : FnScope nm_well ["_law_script"] (defScope s_well) := ⟨rfl, rfl, rfl, by decide +kernel, rfl, by decide +kernel, by decide +kernel⟩
abbrev s_draw : Stmt := topS 9
abbrev nm_draw : List Str := ["_law_well_here", "_law_size", "_law_rest", "_law_count", "_law_mixed"]
theorem sc_draw : FnScope nm_draw ["_law_well_here", "_law_size"] (defScope s_draw) := ⟨rfl, rfl, rfl, by decide +kernel, rfl, by decide +kernel, by decide +kernel⟩
abbrev s_pick : Stmt := topS 10
abbrev nm_pick : List Str := ["_law_well_here", "_law_items"]
theorem sc_pick : FnScope nm_pick ["_law_well_here", "_law_items"] (defScope s_pick) := ⟨rfl, rfl, rfl, by decide +kernel, rfl, by decide +kernel, by decide +kernel⟩
abbrev s_bits : Stmt := topS 11
abbrev nm_bits : List Str := ["_law_well_here", "_law_size", "_law_found", "_law_turn", "_law_mixed", "_law_k"]
theorem sc_bits : FnScope nm_bits ["_law_well_here", "_law_size"] (defScope s_bits) := ⟨rfl, rfl, rfl, by decide +kernel, rfl, by decide +kernel, by decide +kernel⟩
abbrev s_word : Stmt := topS 12
abbrev nm_word : List Str := ["_law_well_here", "_law_size", "_law_kind", "_law_at", "_law_own", "_law_odd", "_law_short", "_law_found"]
theorem sc_word : FnScope nm_word ["_law_well_here", "_law_size"] (defScope s_word) := ⟨rfl, rfl, rfl, by decide +kernel, rfl, by decide +kernel, by decide +kernel⟩
abbrev s_table : Stmt := topS 13
abbrev nm_table : List Str := ["_law_well_here", "_law_tall", "_law_wide"]
theorem sc_table : FnScope nm_table ["_law_well_here", "_law_tall", "_law_wide"] (defScope s_table) := ⟨rfl, rfl, rfl, by decide +kernel, rfl, by decide +kernel, by decide +kernel⟩
abbrev s_written : Stmt := topS 14
abbrev nm_written : List Str := ["_law_well_here", "_law_x", "_law_more", "_law_longer", "_law_often", "_law_row_here", "_law_cut"]
theorem sc_written : FnScope nm_written ["_law_well_here", "_law_x", "_law_more"] (defScope s_written) := ⟨rfl, rfl, rfl, by decide +kernel, rfl, by decide +kernel, by decide +kernel⟩
abbrev s_row : Stmt := topS 15
abbrev nm_row : List Str := ["_law_x", "_law_size"]
theorem sc_row : FnScope nm_row ["_law_x", "_law_size"] (defScope s_row) := ⟨rfl, rfl, rfl, by decide +kernel, rfl, by decide +kernel, by decide +kernel⟩
abbrev s_spoilt : Stmt := topS 16
abbrev nm_spoilt : List Str := ["_law_well_here", "_law_x", "_law_row_here", "_law_at"]
theorem sc_spoilt : FnScope nm_spoilt ["_law_well_here", "_law_x"] (defScope s_spoilt) := ⟨rfl, rfl, rfl, by decide +kernel, rfl, by decide +kernel, by decide +kernel⟩
abbrev s_words : Stmt := topS 17
abbrev nm_words : List Str := ["_law_well_here", "_law_most", "_law_u", "_law_v", "_law_turn", "_law_often", "_law_is_left"]
theorem sc_words : FnScope nm_words ["_law_well_here", "_law_most"] (defScope s_words) := ⟨rfl, rfl, rfl, by decide +kernel, rfl, by decide +kernel, by decide +kernel⟩
abbrev s_pair : Stmt := topS 18
abbrev nm_pair : List Str := ["_law_well_here", "_law_kind", "_law_x", "_law_head", "_law_u", "_law_v", "_law_size"]
theorem sc_pair : FnScope nm_pair ["_law_well_here", "_law_kind"] (defScope s_pair) := ⟨rfl, rfl, rfl, by decide +kernel, rfl, by decide +kernel, by decide +kernel⟩
abbrev s_parted : Stmt := topS 19
abbrev nm_parted : List Str := ["_law_a", "_law_b", "_law_low", "_law_high", "_law_turn", "_law_middle"]
theorem sc_parted : FnScope nm_parted ["_law_a", "_law_b"] (defScope s_parted) := ⟨rfl, rfl, rfl, by decide +kernel, rfl, by decide +kernel, by decide +kernel⟩
abbrev s_law : Stmt := topS 20
abbrev nm_law : List Str := ["_law_script", "_law_well_here", "_law_turn", "_law_x", "_law_y", "_law_size", "_law_due", "_law_told", "_law_long", "_law_known", "_law_a", "_law_b"]
theorem sc_law : FnScope nm_law ["_law_script"] (defScope s_law) := ⟨rfl, rfl, rfl, by decide +kernel, rfl, by decide +kernel, by decide +kernel⟩
structure Tp (K : PySem.W.Frag) (mg : Str → Option Value) where
  a_least : Addr
  d_least : FuncData
  F_least : Fun K "least" "least" s_least a_least d_least
  g_least : mg "least" = some (.ref a_least)
  a_shortest : Addr
  d_shortest : FuncData
  F_shortest : Fun K "_shortest_turn" "_shortest_turn" s_shortest a_shortest d_shortest
  g_shortest : mg "_shortest_turn" = some (.ref a_shortest)
  a_alike : Addr
  d_alike : FuncData
  F_alike : Fun K "_alike_signs" "_alike_signs" s_alike a_alike d_alike
  g_alike : mg "_alike_signs" = some (.ref a_alike)
  a_signs : Addr
  d_signs : FuncData
  F_signs : Fun K "signs" "signs" s_signs a_signs d_signs
  g_signs : mg "signs" = some (.ref a_signs)
  a_same : Addr
  d_same : FuncData
  F_same : Fun K "same" "same" s_same a_same d_same
  g_same : mg "same" = some (.ref a_same)
  a_parting : Addr
  d_parting : FuncData
  F_parting : Fun K "parting" "parting" s_parting a_parting d_parting
  g_parting : mg "parting" = some (.ref a_parting)
  a_well : Addr
  d_well : FuncData
  F_well : Fun K "_law_well" "_law_well" s_well a_well d_well
  g_well : mg "_law_well" = some (.ref a_well)
  a_draw : Addr
  d_draw : FuncData
  F_draw : Fun K "_law_draw" "_law_draw" s_draw a_draw d_draw
  g_draw : mg "_law_draw" = some (.ref a_draw)
  a_pick : Addr
  d_pick : FuncData
  F_pick : Fun K "_law_pick" "_law_pick" s_pick a_pick d_pick
  g_pick : mg "_law_pick" = some (.ref a_pick)
  a_bits : Addr
  d_bits : FuncData
  F_bits : Fun K "_law_bits" "_law_bits" s_bits a_bits d_bits
  g_bits : mg "_law_bits" = some (.ref a_bits)
  a_word : Addr
  d_word : FuncData
  F_word : Fun K "_law_word" "_law_word" s_word a_word d_word
  g_word : mg "_law_word" = some (.ref a_word)
  a_table : Addr
  d_table : FuncData
  F_table : Fun K "_law_table" "_law_table" s_table a_table d_table
  g_table : mg "_law_table" = some (.ref a_table)
  a_written : Addr
  d_written : FuncData
  F_written : Fun K "_law_written" "_law_written" s_written a_written d_written
  g_written : mg "_law_written" = some (.ref a_written)
  a_row : Addr
  d_row : FuncData
  F_row : Fun K "_law_row" "_law_row" s_row a_row d_row
  g_row : mg "_law_row" = some (.ref a_row)
  a_spoilt : Addr
  d_spoilt : FuncData
  F_spoilt : Fun K "_law_spoilt" "_law_spoilt" s_spoilt a_spoilt d_spoilt
  g_spoilt : mg "_law_spoilt" = some (.ref a_spoilt)
  a_words : Addr
  d_words : FuncData
  F_words : Fun K "_law_words" "_law_words" s_words a_words d_words
  g_words : mg "_law_words" = some (.ref a_words)
  a_pair : Addr
  d_pair : FuncData
  F_pair : Fun K "_law_pair" "_law_pair" s_pair a_pair d_pair
  g_pair : mg "_law_pair" = some (.ref a_pair)
  a_parted : Addr
  d_parted : FuncData
  F_parted : Fun K "_law_parted" "_law_parted" s_parted a_parted d_parted
  g_parted : mg "_law_parted" = some (.ref a_parted)
  a_law : Addr
  d_law : FuncData
  F_law : Fun K "law" "law" s_law a_law d_law
  g_law : mg "law" = some (.ref a_law)
  n_abs : mg "abs" = none
  n_enumerate : mg "enumerate" = none
  n_int : mg "int" = none
  n_len : mg "len" = none
  n_max : mg "max" = none
  n_min : mg "min" = none
  n_range : mg "range" = none
  n_repr : mg "repr" = none
  n_str : mg "str" = none
  n_sum : mg "sum" = none
  n_zip : mg "zip" = none
section
variable {K : PySem.W.Frag} {mg : Str → Option Value} (T : Tp K mg)
theorem b_least : Binds K T.d_least ["table"] [] := T.F_least.binds (ps := ["table"]) fun _ _ _ _ _ _ us hl => match us, hl with | [_], _ => rfl
theorem b_shortest : Binds K T.d_shortest ["turn"] [] := T.F_shortest.binds (ps := ["turn"]) fun _ _ _ _ _ _ us hl => match us, hl with | [_], _ => rfl
theorem b_alike : Binds K T.d_alike ["head", "turn"] [] := T.F_alike.binds (ps := ["head", "turn"]) fun _ _ _ _ _ _ us hl => match us, hl with | [_, _], _ => rfl
theorem b_signs : Binds K T.d_signs ["table", "many"] [] := T.F_signs.binds (ps := ["table", "many"]) fun _ _ _ _ _ _ us hl => match us, hl with | [_, _], _ => rfl
theorem b_same : Binds K T.d_same ["one", "other"] [] := T.F_same.binds (ps := ["one", "other"]) fun _ _ _ _ _ _ us hl => match us, hl with | [_, _], _ => rfl
theorem b_parting : Binds K T.d_parting ["one", "other"] [] := T.F_parting.binds (ps := ["one", "other"]) fun _ _ _ _ _ _ us hl => match us, hl with | [_, _], _ => rfl
theorem b_well : Binds K T.d_well ["_law_script"] [] := T.F_well.binds (ps := ["_law_script"]) fun _ _ _ _ _ _ us hl => match us, hl with | [_], _ => rfl
theorem b_draw : Binds K T.d_draw ["_law_well_here", "_law_size"] [] := T.F_draw.binds (ps := ["_law_well_here", "_law_size"]) fun _ _ _ _ _ _ us hl => match us, hl with | [_, _], _ => rfl
theorem b_pick : Binds K T.d_pick ["_law_well_here", "_law_items"] [] := T.F_pick.binds (ps := ["_law_well_here", "_law_items"]) fun _ _ _ _ _ _ us hl => match us, hl with | [_, _], _ => rfl
theorem b_bits : Binds K T.d_bits ["_law_well_here", "_law_size"] [] := T.F_bits.binds (ps := ["_law_well_here", "_law_size"]) fun _ _ _ _ _ _ us hl => match us, hl with | [_, _], _ => rfl
theorem b_word : Binds K T.d_word ["_law_well_here", "_law_size"] [] := T.F_word.binds (ps := ["_law_well_here", "_law_size"]) fun _ _ _ _ _ _ us hl => match us, hl with | [_, _], _ => rfl
theorem b_table : Binds K T.d_table ["_law_well_here", "_law_tall", "_law_wide"] [] := T.F_table.binds (ps := ["_law_well_here", "_law_tall", "_law_wide"]) fun _ _ _ _ _ _ us hl => match us, hl with | [_, _, _], _ => rfl
theorem b_written : Binds K T.d_written ["_law_well_here", "_law_x", "_law_more"] [] := T.F_written.binds (ps := ["_law_well_here", "_law_x", "_law_more"]) fun _ _ _ _ _ _ us hl => match us, hl with | [_, _, _], _ => rfl
theorem b_row : Binds K T.d_row ["_law_x", "_law_size"] [] := T.F_row.binds (ps := ["_law_x", "_law_size"]) fun _ _ _ _ _ _ us hl => match us, hl with | [_, _], _ => rfl
theorem b_spoilt : Binds K T.d_spoilt ["_law_well_here", "_law_x"] [] := T.F_spoilt.binds (ps := ["_law_well_here", "_law_x"]) fun _ _ _ _ _ _ us hl => match us, hl with | [_, _], _ => rfl
theorem b_words : Binds K T.d_words ["_law_well_here", "_law_most"] [] := T.F_words.binds (ps := ["_law_well_here", "_law_most"]) fun _ _ _ _ _ _ us hl => match us, hl with | [_, _], _ => rfl
theorem b_pair : Binds K T.d_pair ["_law_well_here", "_law_kind"] [] := T.F_pair.binds (ps := ["_law_well_here", "_law_kind"]) fun _ _ _ _ _ _ us hl => match us, hl with | [_, _], _ => rfl
theorem b_parted : Binds K T.d_parted ["_law_a", "_law_b"] [] := T.F_parted.binds (ps := ["_law_a", "_law_b"]) fun _ _ _ _ _ _ us hl => match us, hl with | [_, _], _ => rfl
theorem b_law : Binds K T.d_law ["_law_script"] [] := T.F_law.binds (ps := ["_law_script"]) fun _ _ _ _ _ _ us hl => match us, hl with | [_], _ => rfl
end
section
variable {P : Program} {wd : World} {K : PySem.W.Frag} {mg : Str → Option Value} {base : Heap} (T : Tp K mg)
/-- a draw: any number below the size -/
def spDraw : Sp := fun vs H Q _ => ∃ (w g : Addr) (n : Int), vs = [.ref w, .int n] ∧ WellAt w g H ∧ 0 < n ∧ n < 1073741824 ∧
  ∀ (d : Int) H', Go w g H H' → WellAt w g H' → 0 ≤ d → d < n → Q (.int d) H'
theorem ok_draw : FnOk P wd K mg base CX0 1 T.a_draw T.d_draw ["_law_well_here", "_law_size"] spDraw := by
  refine T.F_draw.ok sc_draw (fun vs H Q E h => ?_) (fun cdv A outer s H vs Q E hr h => ?_)
  · obtain ⟨w, g, n, rfl, _⟩ := h
    rfl
  · have hu4 : (cxOf CX0 P wd K mg base nm_draw "_law_draw" (defScope s_draw) T.a_draw cdv A outer s H E).A.units + 64 < cLine := hr.units
    obtain ⟨w, g, n, rfl, W, n0, n1, q⟩ := h
    refine ⟨_, (pss_cons (ps_if (pt_cmpR (op_neD hu4) (pe_ix ix_list (pv 0) pe_int (fun _ _ => rfl)) (pe_lst pa_nil) (nomark _)) (pss_cons (ps_set (i := 2) sc_draw.nd rfl (Or.inl rfl) (pe_ix ix_list (pe_ix ix_list (pv 0) pe_int (fun _ _ => rfl)) pe_int (fun _ _ => rfl)))
      (pss_cons (ps_asg (pe_op op_fdiv (pv 2) (pv 1)) (pg_sub (pe_ix ix_list (pv 0) pe_int (fun _ _ => rfl)) pe_int set_list))
      (pss_cons (ps_if (pt_cmpR op_lt (pv 2) (pv 1) (nomark _)) (pss_one (ps_expr (pe_bm PySem.F.plainAttrs_list PySem.F.slot_list_pop PySem.F.type_list_pop mt_popAt (pe_ix ix_list (pv 0) pe_int (fun _ _ => rfl)) (pa_cons pe_int pa_nil)))) pss_nil)
      (pss_one (ps_ret (pe_op op_mod (pe_callTy call_int1 rfl T.n_int (by decide +kernel) (pa_cons (pv 2) pa_nil)) (pv 1))))))) pss_nil)
      (pss_cons (ps_asg (pe_op op_add (pe_ix ix_list (pv 0) pe_int (fun _ _ => rfl)) pe_int) (pg_sub (pv 0) pe_int set_list))
      (pss_cons (ps_set (i := 3) sc_draw.nd rfl (Or.inl rfl) (pe_callTy call_int1 rfl T.n_int (by decide +kernel) (pa_cons (pe_ix ix_list (pv 0) pe_int (fun _ _ => rfl)) pa_nil)))
      (pss_cons (ps_set (i := 4) sc_draw.nd rfl (Or.inl rfl) (pe_op op_mod (pe_callTy call_int1 rfl T.n_int (by decide +kernel) (pa_cons (pe_op op_add (pe_op op_add (pe_op op_mul (pe_ix ix_list (pe_ix ix_list (pv 0) pe_int (fun _ _ => rfl)) (pe_op op_mod (pv 3) (pe_callB call_len_seq rfl T.n_len PySem.boot_len (pa_cons (pe_ix ix_list (pv 0) pe_int (fun _ _ => rfl)) pa_nil))) (fun _ _ => rfl)) pe_int) (pe_op op_mul (pe_ix ix_list (pe_ix ix_list (pv 0) pe_int (fun _ _ => rfl)) (pe_un un_neg pe_int) (fun _ _ => rfl)) pe_int)) (pe_op op_mul (pv 3) pe_int)) pa_nil)) pe_int))
      (pss_cons (ps_set (i := 4) sc_draw.nd rfl (Or.inl rfl) (pe_op op_mod (pe_callTy call_int1 rfl T.n_int (by decide +kernel) (pa_cons (pe_op op_add (pe_op op_mul (pv 4) (pv 4)) (pe_op op_mul (pv 3) pe_int)) pa_nil)) pe_int))
      (pss_one (ps_ret (pe_op op_mod (pe_op op_fdiv (pe_op op_mod (pe_callTy call_int1 rfl T.n_int (by decide +kernel) (pa_cons (pe_op op_add (pe_op op_mul (pv 4) (pv 4)) (pe_op op_mul pe_int (pv 4))) pa_nil)) pe_int) pe_int) (pv 1))))))))), ?_⟩
    obtain ⟨c, gs, cs, k, e1, e2, e3, hw, hg, hc, h0, hgs, hcs⟩ := W
    walk_at "go"
    intro o no
    have nwo := ne_of_none hw no
    have ngo := ne_of_none hg no
    have nco := ne_of_none hc no
    have s1 : Same H (upd H o (.lst [])) := same_new no
    have ho : (upd H o (.lst [])) o = some (.lst []) := upd_same
    generalize upd H o (.lst []) = H1 at s1 ho
    replace hw := s1 _ _ hw
    replace hg := s1 _ _ hg
    replace hc := s1 _ _ hc
    refine ⟨.list (gs.map PyData.int), .list [], .lst (sqL_of hg) (dpAll_ints _), .lst (sqL_of ho) .nil, shaped_ints _, by rfl, _, rfl, ?_⟩
    rw [eqv_ints_nil]
    refine ifDn (fun hne => ?_) (fun he => ?_)
    · obtain ⟨r, gs', rfl⟩ : ∃ r gs', gs = r :: gs' := by
        cases gs with
        | nil => exact absurd rfl hne
        | cons r gs' => exact ⟨r, gs', rfl⟩
      rw [List.map_cons] at hg
      walk_at "go"
      refine ⟨_, _, _, 0, rfl, rfl, hg, ix_zero (by simp), ?_⟩
      -- if rest < size
      have hg2 : (upd H1 g (.lst ((V.int r :: gs'.map V.int).set 0 (V.int (r / n))))) g = some (.lst (((r / n) :: gs').map V.int)) := upd_same
      have hw2 : (upd H1 g (.lst ((V.int r :: gs'.map V.int).set 0 (V.int (r / n))))) w = _ := (upd_ne e1).trans hw
      have hc2 : (upd H1 g (.lst ((V.int r :: gs'.map V.int).set 0 (V.int (r / n))))) c = _ := (upd_ne e2).trans hc
      have s2 : Go w g H (upd H1 g (.lst ((V.int r :: gs'.map V.int).set 0 (V.int (r / n))))) := fun a x n1 n2 e => by
        rw [upd_ne n2]
        exact s1 _ _ e
      generalize upd H1 g (.lst ((V.int r :: gs'.map V.int).set 0 (V.int (r / n)))) = H2 at hg2 hw2 hc2 s2
      walk_at "go"
      refine ifD (fun lt => ?_) (fun nlt => ?_)
      · walk_at "go"
        refine ⟨Or.inl ⟨rfl, _, sqL_of hg2⟩, ?_⟩
        refine ⟨_, _, 0, 0, .int (r / n), rfl, rfl, hg2, by decide, by decide, by rw [List.length_map, List.length_cons]; exact seq_zero _, rfl, ?_⟩
        have hg3 : (upd H2 g (.lst ((((r / n) :: gs').map V.int).eraseIdx 0))) g = some (.lst (gs'.map V.int)) := upd_same
        have hw3 : (upd H2 g (.lst ((((r / n) :: gs').map V.int).eraseIdx 0))) w = _ := (upd_ne e1).trans hw2
        have hc3 : (upd H2 g (.lst ((((r / n) :: gs').map V.int).eraseIdx 0))) c = _ := (upd_ne e2).trans hc2
        have s3 : Go w g H (upd H2 g (.lst ((((r / n) :: gs').map V.int).eraseIdx 0))) := fun a x n1 n2 e => by
          rw [upd_ne n2]
          exact s2 _ _ n1 n2 e
        generalize upd H2 g (.lst ((((r / n) :: gs').map V.int).eraseIdx 0)) = H3 at hg3 hw3 hc3 s3
        walk_at "go"
        exact q _ _ s3 ⟨c, gs', cs, k, e1, e2, e3, hw3, hg3, hc3, h0, by rw [List.length_cons] at hgs; omega, hcs⟩ (Int.emod_nonneg _ (by omega)) (Int.emod_lt_of_pos _ n0)
      · walk_at "go"
        exact q _ _ s2 ⟨c, _, cs, k, e1, e2, e3, hw2, hg2, hc2, h0, by rw [List.length_cons] at hgs ⊢; omega, hcs⟩ (Int.emod_nonneg _ (by omega)) (Int.emod_lt_of_pos _ n0)
    · subst he
      walk_at "go"
      refine ⟨_, _, _, 2, rfl, rfl, hw, ix_at (j := 2) rfl (by simp), ?_⟩
      have hw2 : (upd H1 w (.lst ([V.ref g, V.ref c, V.int k].set 2 (V.int (k + 1))))) w = some (.lst [V.ref g, V.ref c, V.int (k + 1)]) := upd_same
      have hg2 : (upd H1 w (.lst ([V.ref g, V.ref c, V.int k].set 2 (V.int (k + 1))))) g = _ := (upd_ne e1.symm).trans hg
      have hc2 : (upd H1 w (.lst ([V.ref g, V.ref c, V.int k].set 2 (V.int (k + 1))))) c = _ := (upd_ne e3).trans hc
      have s2 : Go w g H (upd H1 w (.lst ([V.ref g, V.ref c, V.int k].set 2 (V.int (k + 1))))) := fun a x n1 n2 e => by
        rw [upd_ne n1]
        exact s1 _ _ e
      generalize upd H1 w (.lst ([V.ref g, V.ref c, V.int k].set 2 (V.int (k + 1)))) = H2 at hg2 hw2 hc2 s2
      have hm : ((k + 1) % (((cs.map V.int).length : Nat) : Int)).toNat < cs.length := by
        rw [List.length_map]
        have h1 := Int.emod_nonneg (k + 1) (show (cs.length : Int) ≠ 0 by omega)
        have h2 := Int.emod_lt_of_pos (k + 1) (show 0 < (cs.length : Int) by omega)
        omega
      obtain ⟨x, hx⟩ : ∃ x, cs[((k + 1) % (((cs.map V.int).length : Nat) : Int)).toNat]? = some x := ⟨_, List.getElem?_eq_getElem hm⟩
      obtain ⟨z, hz⟩ : ∃ z, cs[cs.length - 1]? = some z := ⟨_, List.getElem?_eq_getElem (by omega)⟩
      walk_at "go"
      refine go_ixLi (xs := cs.map V.int) (v := .int x) hc2 (j := ((k + 1) % (((cs.map V.int).length : Nat) : Int)).toNat) ?_ (by rw [List.getElem?_map, hx]; rfl) ?_
      · rw [Int.toNat_of_nonneg (Int.emod_nonneg _ (by rw [List.length_map]; omega))]
      walk_at "go"
      refine go_ixLast (v := .int z) hc2 (by rw [List.length_map, List.getElem?_map, hz]; rfl) ?_
      walk_at "go"
      exact q _ _ s2 ⟨c, [], cs, k + 1, e1, e2, e3, hw2, hg2, hc2, h0, hgs, hcs⟩ (Int.emod_nonneg _ (by omega)) (Int.emod_lt_of_pos _ n0)
/-- one of the items -/
def spPick : Sp := fun vs H Q _ => ∃ (w g l : Addr) (xs : List V), vs = [.ref w, .ref l] ∧ WellAt w g H ∧ At w g H l (.lst xs) ∧ 0 < xs.length ∧ xs.length < 1000000 ∧
  ∀ x H', x ∈ xs → Go w g H H' → WellAt w g H' → Q x H'
theorem ok_pick : FnOk P wd K mg base CX0 2 T.a_pick T.d_pick ["_law_well_here", "_law_items"] spPick := by
  have G_draw : FnOk P wd K mg base CX0 1 T.a_draw T.d_draw ["_law_well_here", "_law_size"] spDraw := ok_draw T
  refine T.F_pick.ok sc_pick (fun vs H Q E h => ?_) (fun cdv A outer s H vs Q E hr h => ?_)
  · obtain ⟨w, g, l, xs, rfl, _⟩ := h
    rfl
  · obtain ⟨w, g, l, xs, rfl, W, L, l0, l1, q⟩ := h
    refine ⟨_, (pss_one (ps_ret (pe_ix ix_list (pv 1) (pe_call G_draw hr rfl T.g_draw T.F_draw.kp (b_draw T) .nil pass0 (pa_cons (pv 0) (pa_cons (pe_callB call_len_seq rfl T.n_len PySem.boot_len (pa_cons (pv 1) pa_nil)) pa_nil))) (fun _ _ => rfl)))), ?_⟩
    have hl := L.at_
    walk_at "go"
    refine ⟨w, g, _, rfl, W, by omega, by omega, fun d H' s1 W1 d0 d1 => ?_⟩
    have L1 := L.go s1
    have hl1 := L1.at_
    obtain ⟨x, hx⟩ : ∃ x, xs[d.toNat]? = some x := ⟨_, List.getElem?_eq_getElem (by omega)⟩
    refine go_ixLi hl1 (j := d.toNat) (by omega) hx ?_
    exact q x H' (List.mem_of_getElem? hx) s1 W1
/-! ### the well -/
theorem sum_of (ns : List Int) : (ns.map V.int) = ns.map V.int := rfl
def spWell (K : PySem.W.Frag) : Sp := fun vs H Q _ => ∃ (a : Addr) (ns : List Int), vs = [.ref a] ∧ SqL K H a (ns.map V.int) ∧ ns.length ≤ 63 ∧
  ∀ w g H', Same H H' → WellAt w g H' → Q (.ref w) H'
theorem cut63 {xs : List V} {n : Nat} (h : xs.length ≤ n) : cutV xs none (some (n : Int)) = xs := by
  unfold cutV
  rw [sIx_of _ _ (by omega)]
  show (xs.drop 0).take (min (n : Int).toNat xs.length - 0) = xs
  rw [List.drop_zero, Nat.sub_zero, Int.toNat_natCast, Nat.min_eq_right h, List.take_length]
theorem ok_well : FnOk P wd K mg base CX0 1 T.a_well T.d_well ["_law_script"] (spWell K) := by
  refine T.F_well.ok sc_well (fun vs H Q E h => ?_) (fun cdv A outer s H vs Q E hr h => ?_)
  · obtain ⟨a, ns, rfl, _⟩ := h
    rfl
  · obtain ⟨a, ns, rfl, hS, hl, q⟩ := h
    refine ⟨_, (pss_cons (ps_setLc (i := 1) (own := [("_law_cell", 3)]) rfl sc_well.nd rfl rfl (sw_true rfl rfl rfl (by decide +kernel)) (pi_list (pe_slice sl_list (pv 0) po_none (po_some pe_int))) (blkOk_by (N := nm_well) (sc := defScope s_well) (by decide +kernel)) (fun _ _ _ _ _ => pg_name (i := 3) sc_well.nd rfl (Or.inl rfl)) (fun _ _ _ _ _ => pts_one (pt_cmpR op_ge (pe_callB call_abs rfl T.n_abs (by decide +kernel) (pa_cons (pv 3) pa_nil)) (pe_op op_pow pe_int pe_int) (nomark _))) (fun _ _ _ _ _ => (pe_callB call_abs rfl T.n_abs (by decide +kernel) (pa_cons (pv 3) pa_nil))))
      (pss_cons (ps_setLc (i := 2) (own := [("_law_cell", 3)]) rfl sc_well.nd rfl rfl (sw_true rfl rfl rfl (by decide +kernel)) (pi_list (pe_slice sl_list (pv 0) po_none (po_some pe_int))) (blkOk_by (N := nm_well) (sc := defScope s_well) (by decide +kernel)) (fun _ _ _ _ _ => pg_name (i := 3) sc_well.nd rfl (Or.inl rfl)) (fun _ _ _ _ _ => pts_nil) (fun _ _ _ _ _ => (pe_ifExp (pt_cmpR op_gt (pv 3) pe_int (nomark _)) (pe_op op_mul pe_int (pv 3)) (pe_op op_sub pe_int (pe_op op_mul pe_int (pv 3))))))
      (pss_one (ps_ret (pe_lst (pa_cons (pv 1) (pa_cons (pe_op op_cat (pv 2) (pe_lst (pa_cons (pe_op op_add (pe_op op_add (pe_callB (cr_sum rfl) rfl T.n_sum (by decide +kernel) (pa_cons (pv 2) pa_nil)) (pe_op op_mul pe_int (pe_callB call_len_seq rfl T.n_len PySem.boot_len (pa_cons (pv 2) pa_nil)))) pe_int) pa_nil))) (pa_cons pe_int pa_nil)))))))), ?_⟩
    walk_at "go"
    refine ⟨a, ns.map V.int, rfl, hS, ?_⟩
    rw [show (63 : Int) = ((63 : Nat) : Int) from rfl, cut63 (by rw [List.length_map]; exact hl)]
    intro c nc
    generalize hU : upd H c _ = H1
    obtain ⟨s1, hc⟩ := new_of0 nc hU
    refine ⟨c, rfl, ⟨_, sqL_of hc⟩, fun D nD => ?_⟩
    have mc : D ≠ c := (ne_of_none hc nD).symm
    refine lc_list (xs := ns.map V.int) (fun i H2 => ∃ gs : List Int, H2 D = some (.lst (gs.map V.int)) ∧ gs.length ≤ i ∧ Same H1 H2) ⟨[], upd_same, Nat.zero_le _, same_new nD⟩
      (fun i H2 _ p => sqL_of (p.choose_spec.2.2 _ _ hc)) (fun i x H2 hx p => ?_) (fun H2 p => ?_)
    · obtain ⟨gs, hD, hg, S⟩ := p
      obtain ⟨z, rfl⟩ : ∃ z, x = V.int z := by
        rw [List.getElem?_map] at hx
        cases e : ns[i]? with
        | none => rw [e] at hx; cases hx
        | some z => rw [e] at hx; exact ⟨z, (Option.some.inj hx).symm⟩
      refine ⟨rfl, ?_⟩
      walk_at "go"
      refine ifD (fun big => ?_) (fun nb => ?_)
      · walk_at "go"
        have hil : i < (ns.map V.int).length := (List.getElem?_eq_some_iff.mp hx).1
        rw [List.length_map] at hil
        refine ⟨_, hD, small1000 (by rw [List.length_map]; omega), gs ++ [_], by rw [upd_same, List.map_append]; rfl, by rw [List.length_append]; simp; omega, same_mut S nD⟩
      · exact ⟨gs, hD, by omega, S⟩
    · obtain ⟨gs, hD, hg, S⟩ := p
      rw [List.length_map] at hg
      walk_at "go"
      have S0 : Same H H2 := s1.trans S
      refine ⟨a, ns.map V.int, rfl, S0.seq hS, ?_⟩
      rw [cut63 (by rw [List.length_map]; exact hl)]
      intro c2 nc2
      generalize hU2 : upd H2 c2 _ = H3
      obtain ⟨s3, hc2⟩ := new_of0 nc2 hU2
      refine ⟨c2, rfl, ⟨_, sqL_of hc2⟩, fun D2 nD2 => ?_⟩
      refine lc_list (xs := ns.map V.int) (fun i H2 => ∃ gs : List Int, H2 D2 = some (.lst (gs.map V.int)) ∧ gs.length = i ∧ Same H3 H2) ⟨[], upd_same, rfl, same_new nD2⟩
        (fun i H2 _ p => sqL_of (p.choose_spec.2.2 _ _ hc2)) (fun i x H2 hx p => ?_) (fun H4 p => ?_)
      · obtain ⟨cs, hD2, hg2, S2⟩ := p
        obtain ⟨z, rfl⟩ : ∃ z, x = V.int z := by
          rw [List.getElem?_map] at hx
          cases e : ns[i]? with
          | none => rw [e] at hx; cases hx
          | some z => rw [e] at hx; exact ⟨z, (Option.some.inj hx).symm⟩
        have hil : i < (ns.map V.int).length := (List.getElem?_eq_some_iff.mp hx).1
        rw [List.length_map] at hil
        refine ⟨rfl, ?_⟩
        walk_at "go"
        refine ifD (fun big => ?_) (fun nb => ?_)
        · walk_at "go"
          refine ⟨_, hD2, small1000 (by rw [List.length_map]; omega), cs ++ [_], by rw [upd_same, List.map_append]; rfl, by rw [List.length_append]; simp; omega, same_mut S2 nD2⟩
        · walk_at "go"
          refine ⟨_, hD2, small1000 (by rw [List.length_map]; omega), cs ++ [_], by rw [upd_same, List.map_append]; rfl, by rw [List.length_append]; simp; omega, same_mut S2 nD2⟩
      · obtain ⟨cs, hD2, hg2, S2⟩ := p
        rw [List.length_map] at hg2
        walk_at "go"
        refine ⟨D2, cs, rfl, sqL_of hD2, ?_⟩
        walk_at "go"
        intro e ne
        generalize hU3 : upd H4 e _ = H5
        obtain ⟨s5, he⟩ := new_of0 ne hU3
        have hD3 := s5 _ _ hD2
        refine ⟨D2, e, _, _, rfl, rfl, hD3, he, ?_, fun p np => ?_⟩
        · exact Nat.le_trans (by rw [List.length_map]; simp; omega) (show 1000 ≤ sizeLine by decide)
        generalize hU6 : upd H5 p _ = H6
        obtain ⟨s6, hp⟩ := new_of0 np hU6
        walk_at "go"
        intro w nw
        generalize hU7 : upd H6 w _ = H7
        obtain ⟨s7, hw⟩ := new_of0 nw hU7
        have hDg : H6 D = some (.lst (gs.map V.int)) := s6 _ _ (s5 _ _ (S2 _ _ (s3 _ _ hD)))
        have Sall : Same H H7 := fun b o z => s7 _ _ (s6 _ _ (s5 _ _ (S2 _ _ (s3 _ _ (S0 _ _ z)))))
        have hpc : ∃ cs2 : List Int, H7 p = some (.lst (cs2.map V.int)) ∧ cs2.length = cs.length + 1 :=
          ⟨cs ++ [_], by rw [List.map_append]; exact s7 _ _ hp, by rw [List.length_append]; rfl⟩
        obtain ⟨cs2, hp2, hl2⟩ := hpc
        refine q w D H7 Sall ⟨p, gs, cs2, 0, (ne_of_none hDg nw).symm, ?_, ?_, hw, s7 _ _ hDg, hp2, by omega, by omega, by omega⟩
        · exact (ne_of_none (s5 _ _ (S2 _ _ (s3 _ _ hD))) np).symm
        · exact ne_of_none hp nw
/-- a text of so many signs -/
def spBits : Sp := fun vs H Q _ => ∃ (w g : Addr) (n : Int), vs = [.ref w, .int n] ∧ WellAt w g H ∧ 0 ≤ n ∧ n ≤ 5000 ∧
  ∀ (l : List Bool) H', Go w g H H' → WellAt w g H' → (l.length : Int) = n → Q (.str (B l)) H'
theorem ok_bits : FnOk P wd K mg base CX0 2 T.a_bits T.d_bits ["_law_well_here", "_law_size"] spBits := by
  have G_draw : FnOk P wd K mg base CX0 1 T.a_draw T.d_draw ["_law_well_here", "_law_size"] spDraw := ok_draw T
  refine T.F_bits.ok sc_bits (fun vs H Q E h => ?_) (fun cdv A outer s H vs Q E hr h => ?_)
  · obtain ⟨w, g, n, rfl, _⟩ := h
    rfl
  · obtain ⟨w, g, n, rfl, W, n0, n1, q⟩ := h
    refine ⟨_, (pss_cons (ps_set (i := 2) sc_bits.nd rfl (Or.inl rfl) pe_str)
      (pss_cons (ps_for PassesOwn.never rfl (pi_range1 rfl T.n_range (pa_cons (pe_op op_add (pe_op op_fdiv (pv 1) pe_int) pe_int) pa_nil)) (pg_name (i := 3) sc_bits.nd rfl (Or.inl rfl)) (pss_cons (ps_set (i := 4) sc_bits.nd rfl (Or.inr rfl) (pe_call G_draw hr rfl T.g_draw T.F_draw.kp (b_draw T) .nil pass0 (pa_cons (pv 0) (pa_cons pe_int pa_nil))))
      (pss_one (ps_set (i := 2) sc_bits.nd rfl (Or.inl rfl) (pe_op op_add_str (pv 2) (pe_bm PySem.F.plainAttrs_str PySem.F.slot_str_join PySem.F.type_str_join mt_join pe_str (pa_cons (pe_lc (own := [("_law_k", 5)]) rfl sc_bits.nd (pi_range1 rfl T.n_range (pa_cons pe_int pa_nil)) (blkOk_by (N := nm_bits) (sc := defScope s_bits) (by decide +kernel)) (fun _ _ _ _ _ => pg_name (i := 5) sc_bits.nd rfl (Or.inl rfl)) (fun _ _ _ _ _ => pts_nil) (fun _ _ _ _ _ => (pe_callTy call_str_int rfl T.n_str (by decide +kernel) (pa_cons (pe_op op_mod (pe_callTy call_int1 rfl T.n_int (by decide +kernel) (pa_cons (pe_op op_shr (pv 4) (pv 5)) pa_nil)) pe_int) pa_nil)))) pa_nil)))))))
      (pss_one (ps_ret (pe_slice sl_str (pv 2) po_none (po_some (pv 1))))))), ?_⟩
    walk_at "go"
    rw [show ("" : Str) = B [] from B_nil]
    refine for_range (n := (n / 16 + 1).toNat) (fun i σ H2 => ∃ (l : List Bool) (y3 y4 y5 : Option V), σ = [some (.ref w), some (.int n), some (.str (B l)), y3, y4, y5] ∧ l.length = 16 * i ∧ Go w g H H2 ∧ WellAt w g H2)
      ⟨[], none, none, none, rfl, rfl, Go.refl, W⟩ (fun i σ H2 hi p => ?_) (fun σ H2 p => ?_)
    · obtain ⟨l, y3, y4, y5, rfl, hl, s2, W2⟩ := p
      walk_at "go"
      refine ⟨w, g, _, rfl, W2, by omega, by omega, fun d H3 s3 W3 d0 d1 => ?_⟩
      walk_at "go"
      intro D nD
      refine lc_range (n := 16) (fun j H4 => ∃ bs : List Bool, H4 D = some (.lst (bs.map fun b => V.str (B [b]))) ∧ bs.length = j ∧ Same H3 H4) ⟨[], upd_same, rfl, same_new nD⟩ (fun j H4 hj p => ?_) (fun H4 p => ?_)
      · obtain ⟨bs, hD, hb, S⟩ := p
        refine ⟨rfl, ?_⟩
        walk_at "go"
        refine ⟨_, hD, small1000 (by rw [List.length_map]; omega), bs ++ [_], by rw [upd_same, List.map_append]; rfl, by rw [List.length_append, hb]; rfl, same_mut S nD⟩
      · obtain ⟨bs, hD, hb, S⟩ := p
        walk_at "go"
        refine go_join hD (by omega) ?_
        rw [joined]
        walk_at "go"
        refine ⟨l ++ bs, _, _, _, rfl, by rw [List.length_append]; omega, (s2.trans s3).trans (Go.of S), W3.same S⟩
    · obtain ⟨l, y3, y4, y5, rfl, hl, s2, W2⟩ := p
      have hl5 : l.length ≤ 6000 := by omega
      walk_at "go"
      refine q _ H2 s2 W2 ?_
      rw [List.length_take]
      omega
/-- a word: a text of so many signs -/
theorem ok_word : FnOk P wd K mg base CX0 3 T.a_word T.d_word ["_law_well_here", "_law_size"] spBits := by
  have G_draw : FnOk P wd K mg base CX0 1 T.a_draw T.d_draw ["_law_well_here", "_law_size"] spDraw := ok_draw T
  have G_bits : FnOk P wd K mg base CX0 2 T.a_bits T.d_bits ["_law_well_here", "_law_size"] spBits := ok_bits T
  refine T.F_word.ok sc_word (fun vs H Q E h => ?_) (fun cdv A outer s H vs Q E hr h => ?_)
  · obtain ⟨w, g, n, rfl, _⟩ := h
    rfl
  · obtain ⟨w, g, n, rfl, W, n0, n1, q⟩ := h
    refine ⟨_, (pss_cons (ps_if (pt_cmpR op_lt (pv 1) pe_int (nomark _)) (pss_one (ps_ret pe_str)) pss_nil)
      (pss_cons (ps_par (i := 2) (j := 3) rfl sc_word.nd rfl rfl (by decide) rfl rfl (pa_cons (pe_call G_draw (hr.mono (by decide)) rfl T.g_draw T.F_draw.kp (b_draw T) .nil pass0 (pa_cons (pv 0) (pa_cons pe_int pa_nil))) (pa_cons (pe_call G_draw (hr.mono (by decide)) rfl T.g_draw T.F_draw.kp (b_draw T) .nil pass0 (pa_cons (pv 0) (pa_cons (pv 1) pa_nil))) pa_nil)) rfl)
      (pss_cons (ps_if (pt_cmpR op_lt (pv 2) pe_int (nomark _)) (pss_cons (ps_asg (pe_ifExp (pt_cmpR op_lt (pv 2) pe_int (nomark _)) (pe_tup (pa_cons pe_str (pa_cons pe_str pa_nil))) (pe_tup (pa_cons pe_str (pa_cons pe_str pa_nil)))) (pg_tup rfl (pgs_cons (pg_name (i := 4) sc_word.nd rfl (Or.inl rfl)) (pgs_cons (pg_name (i := 5) sc_word.nd rfl (Or.inl rfl)) pgs_nil))))
      (pss_one (ps_ret (pe_ifExp (pt_cmpR op_in_seq (pv 2) (pe_tup (pa_cons pe_int (pa_cons pe_int pa_nil))) (by rfl)) (pe_op op_mulS (pv 4) (pv 1)) (pe_op op_add_str (pe_op op_add_str (pe_op op_mulS (pv 4) (pv 3)) (pv 5)) (pe_op op_mulS (pv 4) (pe_op op_sub (pe_op op_sub (pv 1) (pv 3)) pe_int))))))) pss_nil)
      (pss_cons (ps_if (pt_cmpR op_gt (pv 2) pe_int (nomark _)) (pss_one (ps_ret (pe_slice sl_str (pe_op op_mulS (pe_call G_bits hr rfl T.g_bits T.F_bits.kp (b_bits T) .nil pass0 (pa_cons (pv 0) (pa_cons (pe_callB (call_min2 rfl) rfl T.n_min (by decide +kernel) (pa_cons (pv 1) (pa_cons pe_int pa_nil))) pa_nil))) (pe_op op_add (pe_op op_fdiv (pv 1) pe_int) pe_int)) po_none (po_some (pv 1))))) pss_nil)
      (pss_cons (ps_set (i := 6) sc_word.nd rfl (Or.inl rfl) (pe_call G_bits hr rfl T.g_bits T.F_bits.kp (b_bits T) .nil pass0 (pa_cons (pv 0) (pa_cons (pe_op op_add pe_int (pe_call G_draw (hr.mono (by decide)) rfl T.g_draw T.F_draw.kp (b_draw T) .nil pass0 (pa_cons (pv 0) (pa_cons (pe_callB (call_min2 rfl) rfl T.n_min (by decide +kernel) (pa_cons (pv 1) (pa_cons pe_int pa_nil))) pa_nil)))) pa_nil))))
      (pss_cons (ps_set (i := 7) sc_word.nd rfl (Or.inl rfl) (pe_slice sl_str (pe_op op_mulS (pv 6) (pv 1)) po_none (po_some (pv 1))))
      (pss_cons (ps_if (pt_cmpR op_eq (pv 2) pe_int (nomark _)) (pss_one (ps_set (i := 7) sc_word.nd rfl (Or.inl rfl) (pe_op op_add_str (pe_op op_add_str (pe_slice sl_str (pv 7) po_none (po_some (pv 3))) (pe_ifExp (pt_cmpR op_eq (pe_ix ix_str (pv 7) (pv 3) (fun _ _ => rfl)) pe_str (nomark _)) pe_str pe_str)) (pe_slice sl_str (pv 7) (po_some (pe_op op_add (pv 3) pe_int)) po_none)))) pss_nil)
      (pss_one (ps_ret (pv 7)))))))))), ?_⟩
    walk_at "go"
    refine ifD (fun lt => ?_) (fun nlt => ?_)
    · rw [show ("" : Str) = B [] from B_nil]
      walk_at "go"
      exact q [] H Go.refl W (by simp; omega)
    · walk_at "go"
      refine ⟨w, g, _, rfl, W, by omega, by omega, fun d H1 s1 W1 d0 d1 => ?_⟩
      walk_at "go"
      refine ⟨w, g, _, rfl, W1, by omega, by omega, fun a H2 s2 W2 a0 a1 => ?_⟩
      walk_at "go"
      simp only [B_0, B_1]
      refine ifD (fun lt4 => ?_) (fun ge4 => ?_)
      · walk_at "go"
        refine ifD (fun lt2 => ?_) (fun ge2 => ?_)
        all_goals
          walk_at "go"
          intro p np
          generalize hU : upd H2 p _ = H3
          obtain ⟨s3, W3, ap⟩ := new_of W2 np hU
          have hp := ap.at_
          walk_at "go"
          intro p2 np2
          generalize hU2 : upd H3 p2 _ = H4
          obtain ⟨s4, W4, ap2⟩ := new_of W3 np2 hU2
          have S : Go w g H H4 := ((s1.trans s2).trans (Go.of s3)).trans (Go.of s4)
          refine ⟨_, _, rfl, Or.inr (sqT_of ap2.at_), rfl, rfl, ?_⟩
          walk_at "go"
          refine ifB (fun _ => ?_) (fun _ => ?_)
          · walk_at "go"
            exact q _ H4 S W4 (by rw [rep_length]; simp; omega)
          · walk_at "go"
            exact q _ H4 S W4 (by rw [List.length_append, List.length_append, rep_length, rep_length]; simp; omega)
      · walk_at "go"
        refine ifD (fun gt5 => ?_) (fun le5 => ?_)
        · walk_at "go"
          refine ⟨w, g, _, rfl, W2, by split <;> omega, by split <;> omega, fun l H3 s3 W3 hl => ?_⟩
          have S : Go w g H H3 := (s1.trans s2).trans s3
          have hl640 : l.length ≤ 640 := by split at hl <;> omega
          have hk : (n / 640 + 1).toNat ≤ 8 := by omega
          have hm : l.length * (n / 640 + 1).toNat ≤ 1000000 := mul_le hl640 hk (by decide)
          have hr : (rep (n / 640 + 1).toNat l).length ≤ 1000000 := by rw [rep_length, Nat.mul_comm]; exact hm
          walk_at "go"
          refine q _ H3 S W3 ?_
          rw [List.length_take, rep_length]
          have key : n.toNat ≤ (n / 640 + 1).toNat * l.length := by
            by_cases h6 : 640 < n
            · rw [if_pos h6] at hl
              rw [show l.length = 640 by omega]
              omega
            · rw [if_neg h6] at hl
              refine Nat.le_trans (show n.toNat ≤ 1 * l.length by omega) (Nat.mul_le_mul (by omega) (Nat.le_refl _))
          omega
        · walk_at "go"
          refine ⟨w, g, _, rfl, W2, by split <;> omega, by split <;> omega, fun e H3 s3 W3 e0 e1 => ?_⟩
          walk_at "go"
          have e6 : e < 6 := by split at e1 <;> omega
          refine ⟨w, g, _, rfl, W3, by omega, by omega, fun l H4 s4 W4 hl => ?_⟩
          have S : Go w g H H4 := ((s1.trans s2).trans s3).trans s4
          have hl6 : l.length ≤ 6 := by omega
          have hl1 : 1 ≤ l.length := by omega
          have hm : l.length * n.toNat ≤ 1000000 := mul_le hl6 (show n.toNat ≤ 5000 by omega) (by decide)
          have hr1 : (rep n.toNat l).length ≤ 1000000 := by rw [rep_length, Nat.mul_comm]; exact hm
          walk_at "go"
          have key : n.toNat ≤ n.toNat * l.length := Nat.le_mul_of_pos_right _ hl1
          have hr : (rep n.toNat l).length = n.toNat * l.length := rep_length _ _
          have hf : ((rep n.toNat l).take n.toNat).length = n.toNat := by
            rw [List.length_take, hr]
            omega
          generalize (rep n.toNat l).take n.toNat = f at hf
          walk_at "go"
          refine ifD (fun e5 => ?_) (fun n5 => ?_)
          · obtain ⟨x, hx⟩ : ∃ x, f[a.toNat]? = some x := ⟨_, List.getElem?_eq_getElem (by omega)⟩
            walk_at "go"
            refine go_ixS (k := a.toNat) (by omega) (by omega) hx ?_
            rw [B_one]
            walk_at "go"
            rw [B_dec]
            refine ifD (fun ex => ?_) (fun nx => ?_)
            all_goals
              walk_at "go"
              exact q _ H4 S W4 (by simp only [List.length_append, List.length_take, List.length_drop, List.length_cons, List.length_nil]; omega)
          · walk_at "go"
            exact q _ H4 S W4 (by omega)
def spShort : Sp := fun vs H Q _ => ∃ (t : List Bool) (s : Nat), vs = [.str (B t)] ∧ 0 < t.length ∧ t.length ≤ 5000 ∧ IsPer t s ∧ Q (.str (B (t.take s))) H
theorem ok_short : FnOk P wd K mg base CX0 1 T.a_shortest T.d_shortest ["turn"] spShort := by
  refine T.F_shortest.ok sc_shortest (fun vs H Q E h => ?_) (fun cdv A outer s H vs Q E hr h => ?_)
  · obtain ⟨t, s, rfl, _⟩ := h
    rfl
  · obtain ⟨t, s0, rfl, t0, t1, per, q⟩ := h
    refine ⟨_, (pss_cons (ps_set (i := 1) sc_shortest.nd rfl (Or.inl rfl) (pe_callB call_len_str rfl T.n_len PySem.boot_len (pa_cons (pv 0) pa_nil)))
      (pss_cons (ps_for PassesOwn.never rfl (pi_range2 rfl T.n_range (pa_cons pe_int (pa_cons (pe_op op_add (pe_op op_fdiv (pv 1) pe_int) pe_int) pa_nil))) (pg_name (i := 2) sc_shortest.nd rfl (Or.inl rfl)) (pss_one (ps_if (PW.pt (pw_and (pt_cmpR op_eq (pe_op op_mod (pv 1) (pv 2)) pe_int (nomark _)) (pw_and1 (pt_cmpR op_eq (pe_op op_mulS (pe_slice sl_str (pv 0) po_none (po_some (pv 2))) (pe_op op_fdiv (pv 1) (pv 2))) (pv 0) (nomark _))))) (pss_one (ps_ret (pe_slice sl_str (pv 0) po_none (po_some (pv 2))))) pss_nil)))
      (pss_one (ps_ret (pv 0))))), ?_⟩
    have fact : ∀ k, 1 ≤ k → k ≤ t.length → t.length % k = 0 → rep (t.length / k) (t.take k) = t → s0 ≤ k := fun k k1 k2 k3 k4 => by
      refine Nat.le_of_not_lt fun c => per.least k k1 c ((rep_iff k1 k2 k3).mp k4)
    walk_at "go"
    refine for_range (lo := 1) (n := ((t.length : Int) / 2 + 1 - 1).toNat) (fun i σ H2 => ∃ y2, σ = [some (.str (B t)), some (.int t.length), y2] ∧ H2 = H ∧ ∀ k, 1 ≤ k → k < 1 + i → ¬ (t.length % k = 0 ∧ rep (t.length / k) (t.take k) = t))
      ⟨none, rfl, rfl, fun k a b => by omega⟩ (fun i σ H2 hi p => ?_) (fun σ H2 p => ?_)
    · obtain ⟨y2, rfl, rfl, no⟩ := p
      have i1 : 1 + i ≤ t.length := by omega
      have m1 : (t.take (1 + (i : Int)).toNat).length * ((t.length : Int) / (1 + (i : Int))).toNat ≤ 1000000 := by
        refine mul_le (n := 1 + i) (m := t.length / (1 + i)) (by rw [List.length_take]; omega) ?_ ?_
        · rw [show (1 + (i : Int)) = ((1 + i : Nat) : Int) by omega, ← Int.natCast_ediv, Int.toNat_natCast]
          exact Nat.le_refl _
        · exact Nat.le_trans (Nat.mul_div_le _ _) (by omega)
      walk_at "go"
      have e1 : (1 + (i : Int)).toNat = 1 + i := by omega
      have e2 : ((t.length : Int) / (1 + (i : Int))).toNat = t.length / (1 + i) := by
        rw [show (1 + (i : Int)) = ((1 + i : Nat) : Int) by omega, ← Int.natCast_ediv, Int.toNat_natCast]
      have e3 : (t.length : Int) % (1 + (i : Int)) = ((t.length % (1 + i) : Nat) : Int) := by
        rw [show (1 + (i : Int)) = ((1 + i : Nat) : Int) by omega, ← Int.natCast_emod]
      have e4 : 0 ≤ (t.length : Int) / (1 + (i : Int)) ∧ (t.length : Int) / (1 + (i : Int)) < 2 ^ 30 := by
        rw [show (1 + (i : Int)) = ((1 + i : Nat) : Int) by omega, ← Int.natCast_ediv]
        have := Nat.div_le_self t.length (1 + i)
        omega
      have next : ¬ (t.length % (1 + i) = 0 ∧ rep (t.length / (1 + i)) (t.take (1 + i)) = t) → ∀ k, 1 ≤ k → k < 1 + (i + 1) → ¬ (t.length % k = 0 ∧ rep (t.length / k) (t.take k) = t) := fun c k k1 k2 z => by
        by_cases ek : k = 1 + i
        · subst ek
          exact c z
        · exact no k k1 (by omega) z
      refine ifD (fun ed => ?_) (fun nd => ?_)
      · have ed2 : t.length % (1 + i) = 0 := by
          have ed1 : (t.length : Int) % (1 + (i : Int)) = 0 := V.int.inj ed
          rw [e3] at ed1
          omega
        walk_at "go"
        rw [B_dec, e1, e2]
        refine ifD (fun er => ?_) (fun nr => ?_)
        · walk_at "go"
          have es : s0 = 1 + i := by
            have h1 := fact (1 + i) (by omega) i1 ed2 er
            by_cases h2 : s0 < 1 + i
            · exact absurd ⟨per.dvd, (rep_iff per.pos per.le per.dvd).mpr per.rot⟩ (no s0 per.pos h2)
            · omega
          rw [e1, ← es]
          exact q
        · exact ⟨_, rfl, rfl, next fun z => nr z.2⟩
      · exact ⟨_, rfl, rfl, next fun z => nd (congrArg V.int (show (t.length : Int) % (1 + (i : Int)) = 0 by rw [e3, z.1]; rfl))⟩
    · obtain ⟨y2, rfl, rfl, no⟩ := p
      walk_at "go"
      have es : s0 = t.length := by
        have hle := per.le
        have hd := per.dvd
        have h1 : ¬ s0 < 1 + ((t.length : Int) / 2 + 1 - 1).toNat := fun c => no s0 per.pos c ⟨hd, (rep_iff per.pos hle hd).mpr per.rot⟩
        have h2 : t.length < 2 * s0 := by omega
        have h3 := Nat.mod_eq_sub_mod hle
        rw [Nat.mod_eq_of_lt (show t.length - s0 < s0 by omega)] at h3
        omega
      rw [es, List.take_length] at q
      exact q
def spAlike : Sp := fun vs H Q _ => ∃ (h u : List Bool), vs = [.str (B h), .str (B u)] ∧ h.length ≤ 5000 ∧ 0 < u.length ∧ u.length ≤ 5000 ∧ ∀ a : Nat, Alike h u a → Q (.int a) H
theorem ok_alike : FnOk P wd K mg base CX0 1 T.a_alike T.d_alike ["head", "turn"] spAlike := by
  refine T.F_alike.ok sc_alike (fun vs H Q E h => ?_) (fun cdv A outer s H vs Q E hr h => ?_)
  · obtain ⟨h, u, rfl, _⟩ := h
    rfl
  · obtain ⟨h, u, rfl, h1, u0, u1, q⟩ := h
    refine ⟨_, (pss_cons (ps_set (i := 2) sc_alike.nd rfl (Or.inl rfl) pe_int)
      (pss_cons (ps_while PassesOwn.never (PW.pt (pw_and (pt_cmpR op_lt (pv 2) (pe_callB call_len_str rfl T.n_len PySem.boot_len (pa_cons (pv 0) pa_nil)) (nomark _)) (pw_and1 (pt_cmpR op_eq (pe_ix ix_str (pv 0) (pe_op op_sub (pe_un un_neg pe_int) (pv 2)) (fun _ _ => rfl)) (pe_ix ix_str (pv 1) (pe_op op_sub (pe_un un_neg pe_int) (pe_op op_mod (pv 2) (pe_callB call_len_str rfl T.n_len PySem.boot_len (pa_cons (pv 1) pa_nil)))) (fun _ _ => rfl)) (nomark _))))) (pss_one (ps_aug (i := 2) sc_alike.nd rfl (Or.inl rfl) pe_int ip_add)))
      (pss_one (ps_ret (pv 2))))), ?_⟩
    walk_at "go"
    refine ⟨fun m σ H2 => ∃ a : Nat, σ = [some (.str (B h)), some (.str (B u)), some (.int a)] ∧ H2 = H ∧ a ≤ h.length ∧ m = h.length - a ∧ ∀ j, j < a → h.getD (h.length - 1 - j) false = u.getD (u.length - 1 - j % u.length) false,
      ⟨h.length, 0, rfl, rfl, Nat.zero_le _, rfl, fun j hj => by omega⟩, fun m σ H2 p => ?_⟩
    obtain ⟨a, rfl, rfl, ha, rfl, sm⟩ := p
    walk_at "go"
    refine ifD (fun lt => ?_) (fun nlt => ?_)
    · have lt2 : a < h.length := by omega
      have hm := Nat.mod_lt a u0
      walk_at "go"
      refine go_ixSn (k := a) rfl (by omega) lt2 (getD_some (by omega)) ?_
      rw [B_one]
      walk_at "go"
      refine go_ixSn (k := a % u.length) (by simp) (by omega) hm (getD_some (by omega)) ?_
      rw [B_one]
      walk_at "go"
      rw [B_dec]
      refine ifD (fun eq => ?_) (fun ne => ?_)
      · refine ⟨fun σ' H' => σ' = [some (.str (B h)), some (.str (B u)), some (.int ((a + 1 : Nat) : Int))] ∧ H' = H2, fun σ' H' p => ?_, ?_⟩
        · obtain ⟨rfl, rfl⟩ := p
          refine ⟨h.length - (a + 1), by omega, a + 1, rfl, rfl, by omega, rfl, fun j hj => ?_⟩
          by_cases e : j = a
          · subst e
            exact (List.cons.inj eq).1
          · exact sm j (by omega)
        · walk_at "go"
          exact rfl
      · walk_at "go"
        exact q a ⟨ha, sm, .inr fun z => ne (by rw [z])⟩
    · walk_at "go"
      exact q a ⟨ha, sm, .inl (by omega)⟩
/-- the table of a head and a turn -/
def Tab (H : Hp) (p : Addr) (h t : List Bool) : Prop := H p = some (.tup [.str (B h), .str (B t)]) ∧ h.length ≤ 5000 ∧ 0 < t.length ∧ t.length ≤ 5000
theorem Tab.same {H H' : Hp} {p : Addr} {h t : List Bool} (x : Tab H p h t) (s : Same H H') : Tab H' p h t := ⟨s _ _ x.1, x.2⟩
def spLeast : Sp := fun vs H Q _ => ∃ (p : Addr) (h t : List Bool) (s m : Nat), vs = [.ref p] ∧ Tab H p h t ∧ IsPer t s ∧ IsBeg h t s m ∧
  ∀ p' H', Same H H' → Tab H' p' (rng (sg h t) 0 m) (rng (sg h t) m s) → Q (.ref p') H'
theorem ok_least : FnOk P wd K mg base CX0 2 T.a_least T.d_least ["table"] spLeast := by
  have G_shortest : FnOk P wd K mg base CX0 1 T.a_shortest T.d_shortest ["turn"] spShort := ok_short T
  have G_alike : FnOk P wd K mg base CX0 1 T.a_alike T.d_alike ["head", "turn"] spAlike := ok_alike T
  refine T.F_least.ok sc_least (fun vs H Q E h => ?_) (fun cdv A outer s H vs Q E hr h => ?_)
  · obtain ⟨p, h, t, s, m, rfl, _⟩ := h
    rfl
  · obtain ⟨p, h, t, s, m, rfl, ⟨hp, h1, t0, t1⟩, per, beg, q⟩ := h
    refine ⟨_, (pss_cons (ps_asg (pv 0) (pg_tup rfl (pgs_cons (pg_name (i := 1) sc_least.nd rfl (Or.inl rfl)) (pgs_cons (pg_name (i := 2) sc_least.nd rfl (Or.inl rfl)) pgs_nil))))
      (pss_cons (ps_set (i := 2) sc_least.nd rfl (Or.inl rfl) (pe_call G_shortest hr rfl T.g_shortest T.F_shortest.kp (b_shortest T) .nil pass0 (pa_cons (pv 2) pa_nil)))
      (pss_cons (ps_set (i := 3) sc_least.nd rfl (Or.inl rfl) (pe_call G_alike hr rfl T.g_alike T.F_alike.kp (b_alike T) .nil pass0 (pa_cons (pv 1) (pa_cons (pv 2) pa_nil))))
      (pss_cons (ps_set (i := 4) sc_least.nd rfl (Or.inl rfl) (pe_op op_sub (pe_callB call_len_str rfl T.n_len PySem.boot_len (pa_cons (pv 2) pa_nil)) (pe_op op_mod (pv 3) (pe_callB call_len_str rfl T.n_len PySem.boot_len (pa_cons (pv 2) pa_nil)))))
      (pss_one (ps_ret (pe_tup (pa_cons (pe_slice sl_str (pv 1) po_none (po_some (pe_op op_sub (pe_callB call_len_str rfl T.n_len PySem.boot_len (pa_cons (pv 1) pa_nil)) (pv 3)))) (pa_cons (pe_op op_add_str (pe_slice sl_str (pv 2) (po_some (pv 4)) po_none) (pe_slice sl_str (pv 2) po_none (po_some (pv 4)))) pa_nil))))))))), ?_⟩
    have hu := take_len per
    have spos := per.pos
    have sle := per.le
    walk_at "go"
    refine ⟨t, s, rfl, t0, t1, per, ?_⟩
    walk_at "go"
    intro a x
    have ha := x.le
    have hm := Nat.mod_lt a spos
    have em : ((a : Int) % ((s : Nat) : Int)) = ((a % s : Nat) : Int) := (Int.natCast_emod _ _).symm
    rw [← hu] at em
    have hm2 : a % (t.take s).length < (t.take s).length := by rw [hu]; exact hm
    have c0 : 0 ≤ ((t.take s).length : Int) - (a : Int) % ((t.take s).length : Int) := by
      rw [em]
      omega
    have ec : (((t.take s).length : Int) - (a : Int) % ((t.take s).length : Int)).toNat = s - a % s := by
      rw [em, hu]
      omega
    have eh : ((h.length : Int) - (a : Int)).toNat = h.length - a := by omega
    walk_at "go"
    rw [ec, eh]
    intro p' np
    have eb : m = h.length - a := beg.uniq (beg_of per x)
    refine q p' _ (same_new np) ⟨?_, ?_, ?_, ?_⟩
    · rw [upd_same, win_of per x, head_of ha, eb]
    · rw [rng_len]; omega
    · rw [rng_len]; omega
    · rw [rng_len]; omega
def spSigns : Sp := fun vs H Q _ => ∃ (p : Addr) (h t : List Bool) (n : Int), vs = [.ref p, .int n] ∧ Tab H p h t ∧ 0 ≤ n ∧ n ≤ 30000 ∧ Q (.str (B (rng (sg h t) 0 n.toNat))) H
theorem times_ok {n : Int} {t : List Bool} (n0 : 0 ≤ n) (n1 : n ≤ 30000) (t0 : 0 < t.length) (t1 : t.length ≤ 5000) :
    (n / (t.length : Int) + 1).toNat = n.toNat / t.length + 1 ∧ t.length * (n.toNat / t.length + 1) ≤ 35000 ∧ n.toNat ≤ (n.toNat / t.length + 1) * t.length ∧ 0 ≤ n / (t.length : Int) + 1 ∧ n / (t.length : Int) + 1 < 2 ^ 30 := by
  have e : n = ((n.toNat : Nat) : Int) := by omega
  generalize n.toNat = k at e
  subst e
  rw [← Int.natCast_ediv]
  have h1 := Nat.mod_add_div k t.length
  have h2 := Nat.mod_lt k t0
  have h3 : t.length * (k / t.length + 1) = t.length * (k / t.length) + t.length := Nat.mul_succ _ _
  have h4 : (k / t.length + 1) * t.length = t.length * (k / t.length) + t.length := by rw [Nat.mul_comm, h3]
  have h5 := Nat.div_le_self k t.length
  generalize k / t.length = z at *
  generalize k % t.length = y at *
  refine ⟨by omega, by omega, by omega, by omega, by omega⟩
theorem ok_signs : FnOk P wd K mg base CX0 1 T.a_signs T.d_signs ["table", "many"] spSigns := by
  refine T.F_signs.ok sc_signs (fun vs H Q E h => ?_) (fun cdv A outer s H vs Q E hr h => ?_)
  · obtain ⟨p, h, t, n, rfl, _⟩ := h
    rfl
  · obtain ⟨p, h, t, n, rfl, ⟨hp, h1, t0, t1⟩, n0, n1, q⟩ := h
    refine ⟨_, (pss_cons (ps_asg (pv 0) (pg_tup rfl (pgs_cons (pg_name (i := 2) sc_signs.nd rfl (Or.inl rfl)) (pgs_cons (pg_name (i := 3) sc_signs.nd rfl (Or.inl rfl)) pgs_nil))))
      (pss_cons (ps_set (i := 4) sc_signs.nd rfl (Or.inl rfl) (pe_op op_add (pe_op op_fdiv (pv 1) (pe_callB call_len_str rfl T.n_len PySem.boot_len (pa_cons (pv 3) pa_nil))) pe_int))
      (pss_one (ps_ret (pe_slice sl_str (pe_op op_add_str (pv 2) (pe_op op_mulS (pv 3) (pv 4))) po_none (po_some (pv 1))))))), ?_⟩
    obtain ⟨e1, e2, e3, e4, e5⟩ := times_ok n0 n1 t0 t1
    have m1 : t.length * (n / (t.length : Int) + 1).toNat ≤ 1000000 := by rw [e1]; omega
    have l1 : h.length + (rep (n / (t.length : Int) + 1).toNat t).length ≤ 1000000 := by
      rw [rep_length, e1, Nat.mul_comm]
      omega
    have l2 : (h ++ rep (n / (t.length : Int) + 1).toNat t).length ≤ 1000000 := by
      rw [List.length_append]
      exact l1
    walk_at "go"
    rw [e1, row_take t0 (by omega)]
    exact q
theorem ok_row : FnOk P wd K mg base CX0 1 T.a_row T.d_row ["_law_x", "_law_size"] spSigns := by
  refine T.F_row.ok sc_row (fun vs H Q E h => ?_) (fun cdv A outer s H vs Q E hr h => ?_)
  · obtain ⟨p, h, t, n, rfl, _⟩ := h
    rfl
  · obtain ⟨p, h, t, n, rfl, ⟨hp, h1, t0, t1⟩, n0, n1, q⟩ := h
    refine ⟨_, (pss_one (ps_ret (pe_slice sl_str (pe_op op_add_str (pe_ix ix_tup (pv 0) pe_int (fun _ _ => rfl)) (pe_op op_mulS (pe_ix ix_tup (pv 0) pe_int (fun _ _ => rfl)) (pe_op op_add (pe_op op_fdiv (pv 1) (pe_callB call_len_str rfl T.n_len PySem.boot_len (pa_cons (pe_ix ix_tup (pv 0) pe_int (fun _ _ => rfl)) pa_nil))) pe_int))) po_none (po_some (pv 1))))), ?_⟩
    obtain ⟨e1, e2, e3, e4, e5⟩ := times_ok n0 n1 t0 t1
    have m1 : t.length * (n / (t.length : Int) + 1).toNat ≤ 1000000 := by rw [e1]; omega
    have l1 : h.length + (rep (n / (t.length : Int) + 1).toNat t).length ≤ 1000000 := by
      rw [rep_length, e1, Nat.mul_comm]
      omega
    have l2 : (h ++ rep (n / (t.length : Int) + 1).toNat t).length ≤ 1000000 := by
      rw [List.length_append]
      exact l1
    walk_at "go"
    rw [e1, row_take t0 (by omega)]
    exact q
/-- a table, made of words -/
def GoTab (w g : Addr) (H : Hp) (Q : VK) (hm tm : Int) : Prop := ∀ p H' (h t : List Bool), Go w g H H' → WellAt w g H' → Tab H' p h t → (h.length : Int) ≤ hm → (t.length : Int) ≤ tm → Q (.ref p) H'
def spTable : Sp := fun vs H Q _ => ∃ (w g : Addr) (a b : Int), vs = [.ref w, .int a, .int b] ∧ WellAt w g H ∧ 0 ≤ a ∧ a ≤ 4000 ∧ 1 ≤ b ∧ b ≤ 4000 ∧ GoTab w g H Q a b
theorem ok_table : FnOk P wd K mg base CX0 4 T.a_table T.d_table ["_law_well_here", "_law_tall", "_law_wide"] spTable := by
  have G_draw : FnOk P wd K mg base CX0 1 T.a_draw T.d_draw ["_law_well_here", "_law_size"] spDraw := ok_draw T
  have G_word : FnOk P wd K mg base CX0 3 T.a_word T.d_word ["_law_well_here", "_law_size"] spBits := ok_word T
  refine T.F_table.ok sc_table (fun vs H Q E h => ?_) (fun cdv A outer s H vs Q E hr h => ?_)
  · obtain ⟨w, g, a, b, rfl, _⟩ := h
    rfl
  · obtain ⟨w, g, a, b, rfl, W, a0, a1, b0, b1, q⟩ := h
    refine ⟨_, (pss_one (ps_ret (pe_tup (pa_cons (pe_call G_word hr rfl T.g_word T.F_word.kp (b_word T) .nil pass0 (pa_cons (pv 0) (pa_cons (pe_call G_draw (hr.mono (by decide)) rfl T.g_draw T.F_draw.kp (b_draw T) .nil pass0 (pa_cons (pv 0) (pa_cons (pe_op op_add (pv 1) pe_int) pa_nil))) pa_nil))) (pa_cons (pe_call G_word hr rfl T.g_word T.F_word.kp (b_word T) .nil pass0 (pa_cons (pv 0) (pa_cons (pe_op op_add pe_int (pe_call G_draw (hr.mono (by decide)) rfl T.g_draw T.F_draw.kp (b_draw T) .nil pass0 (pa_cons (pv 0) (pa_cons (pv 2) pa_nil)))) pa_nil))) pa_nil))))), ?_⟩
    walk_at "go"
    refine ⟨w, g, _, rfl, W, by omega, by omega, fun d H1 s1 W1 d0 d1 => ?_⟩
    walk_at "go"
    refine ⟨w, g, _, rfl, W1, by omega, by omega, fun l H2 s2 W2 hl => ?_⟩
    walk_at "go"
    refine ⟨w, g, _, rfl, W2, by omega, by omega, fun e H3 s3 W3 e0 e1 => ?_⟩
    walk_at "go"
    refine ⟨w, g, _, rfl, W3, by omega, by omega, fun m H4 s4 W4 hm => ?_⟩
    walk_at "go"
    intro p np
    generalize hU : upd H4 p _ = H5
    obtain ⟨s5, W5, ap⟩ := new_of W4 np hU
    exact q p H5 l m ((((s1.trans s2).trans s3).trans s4).trans (Go.of s5)) W5 ⟨ap.at_, by omega, by omega, by omega⟩ (by omega) (by omega)
def spWritten : Sp := fun vs H Q _ => ∃ (w g p : Addr) (h u : List Bool) (n : Int), vs = [.ref w, .ref p, .int n] ∧ WellAt w g H ∧ Tab H p h u ∧ 1 ≤ n ∧ n ≤ 5000 ∧
  ∀ p' H' (L k : Nat), Go w g H H' → WellAt w g H' → 1 ≤ k → Tab H' p' (rng (sg h u) 0 (h.length + L)) (rep k (rng (sg h u) (h.length + L) u.length)) → Q (.ref p') H'
theorem ok_written : FnOk P wd K mg base CX0 2 T.a_written T.d_written ["_law_well_here", "_law_x", "_law_more"] spWritten := by
  have G_draw : FnOk P wd K mg base CX0 1 T.a_draw T.d_draw ["_law_well_here", "_law_size"] spDraw := ok_draw T
  refine T.F_written.ok sc_written (fun vs H Q E h => ?_) (fun cdv A outer s H vs Q E hr h => ?_)
  · obtain ⟨w, g, p, h, u, n, rfl, _⟩ := h
    rfl
  · obtain ⟨w, g, p, h, u, n, rfl, W, tb, n0, n1, q⟩ := h
    refine ⟨_, (pss_cons (ps_set (i := 3) sc_written.nd rfl (Or.inl rfl) (pe_call G_draw hr rfl T.g_draw T.F_draw.kp (b_draw T) .nil pass0 (pa_cons (pv 0) (pa_cons (pe_op op_add (pe_callB (call_min2 rfl) rfl T.n_min (by decide +kernel) (pa_cons (pv 2) (pa_cons (pe_op op_sub pe_int (pe_callB call_len_str rfl T.n_len PySem.boot_len (pa_cons (pe_ix ix_tup (pv 1) pe_int (fun _ _ => rfl)) pa_nil))) pa_nil))) pe_int) pa_nil))))
      (pss_cons (ps_set (i := 4) sc_written.nd rfl (Or.inl rfl) (pe_op op_add pe_int (pe_call G_draw hr rfl T.g_draw T.F_draw.kp (b_draw T) .nil pass0 (pa_cons (pv 0) (pa_cons (pe_callB (call_min2 rfl) rfl T.n_min (by decide +kernel) (pa_cons (pv 2) (pa_cons (pe_op op_fdiv pe_int (pe_callB call_len_str rfl T.n_len PySem.boot_len (pa_cons (pe_ix ix_tup (pv 1) pe_int (fun _ _ => rfl)) pa_nil))) pa_nil))) pa_nil)))))
      (pss_cons (ps_par (i := 5) (j := 6) rfl sc_written.nd rfl rfl (by decide) rfl rfl (pa_cons (pe_op op_add_str (pe_ix ix_tup (pv 1) pe_int (fun _ _ => rfl)) (pe_op op_mulS (pe_ix ix_tup (pv 1) pe_int (fun _ _ => rfl)) (pe_op op_add (pe_op op_fdiv (pv 3) (pe_callB call_len_str rfl T.n_len PySem.boot_len (pa_cons (pe_ix ix_tup (pv 1) pe_int (fun _ _ => rfl)) pa_nil))) pe_int))) (pa_cons (pe_op op_add (pe_callB call_len_str rfl T.n_len PySem.boot_len (pa_cons (pe_ix ix_tup (pv 1) pe_int (fun _ _ => rfl)) pa_nil)) (pv 3)) pa_nil)) rfl)
      (pss_one (ps_ret (pe_tup (pa_cons (pe_slice sl_str (pv 5) po_none (po_some (pv 6))) (pa_cons (pe_op op_mulS (pe_slice sl_str (pv 5) (po_some (pv 6)) (po_some (pe_op op_add (pv 6) (pe_callB call_len_str rfl T.n_len PySem.boot_len (pa_cons (pe_ix ix_tup (pv 1) pe_int (fun _ _ => rfl)) pa_nil))))) (pv 4)) pa_nil)))))))), ?_⟩
    have hp := tb.1
    have h5 := tb.2.1
    have u0 := tb.2.2.1
    have u5 := tb.2.2.2
    walk_at "go"
    refine ⟨w, g, _, rfl, W, by split <;> omega, by split <;> omega, fun d H1 s1 W1 d0 d1 => ?_⟩
    have x1 := (W.tup hp).go s1
    have hp1 := x1.at_
    have dL : d ≤ 5000 - (h.length : Int) := by split at d1 <;> omega
    have q5 : 1 ≤ (5000 : Int) / (u.length : Int) ∧ (5000 : Int) / (u.length : Int) ≤ 5000 := by
      rw [show (5000 : Int) = ((5000 : Nat) : Int) from rfl, ← Int.natCast_ediv]
      have a1 : 1 ≤ 5000 / u.length := (Nat.le_div_iff_mul_le u0).mpr (by omega)
      have a2 := Nat.div_le_self 5000 u.length
      omega
    walk_at "go"
    refine ⟨w, g, _, rfl, W1, by split <;> omega, by split <;> omega, fun e H2 s2 W2 e0 e1 => ?_⟩
    have x2 := x1.go s2
    have hp2 := x2.at_
    have eq5 : e < (5000 : Int) / (u.length : Int) := by split at e1 <;> omega
    obtain ⟨dn, rfl⟩ : ∃ dn : Nat, d = (dn : Int) := ⟨d.toNat, by omega⟩
    obtain ⟨en, rfl⟩ : ∃ en : Nat, e = (en : Int) := ⟨e.toNat, by omega⟩
    have ku : (1 + en) * u.length ≤ 5000 := by
      rw [show (5000 : Int) = ((5000 : Nat) : Int) from rfl, ← Int.natCast_ediv] at eq5
      have a1 : 1 + en ≤ 5000 / u.length := by omega
      exact Nat.le_trans (Nat.mul_le_mul_right _ a1) (Nat.div_mul_le_self _ _)
    have dq : (dn : Int) / (u.length : Int) + 2 = ((dn / u.length + 2 : Nat) : Int) := by
      rw [← Int.natCast_ediv]
      omega
    have c1 : ((dn : Int) / (u.length : Int) + 2).toNat = dn / u.length + 2 := by rw [dq, Int.toNat_natCast]
    have c2 : 0 ≤ (dn : Int) / (u.length : Int) + 2 ∧ (dn : Int) / (u.length : Int) + 2 < 2 ^ 30 := by
      rw [dq]
      have := Nat.div_le_self dn u.length
      omega
    have hdm := Nat.mod_add_div dn u.length
    have hml := Nat.mod_lt dn u0
    have m3 : (dn / u.length + 2) * u.length = u.length * (dn / u.length) + 2 * u.length := by rw [Nat.add_mul, Nat.mul_comm]
    have m1 : u.length * ((dn : Int) / (u.length : Int) + 2).toNat ≤ 1000000 := by
      rw [c1, Nat.mul_comm, m3]
      omega
    have lrow : (h ++ rep ((dn : Int) / (u.length : Int) + 2).toNat u).length ≤ 1000000 := by
      rw [List.length_append, rep_length, c1, m3]
      omega
    have lrow2 : h.length + (rep ((dn : Int) / (u.length : Int) + 2).toNat u).length ≤ 1000000 := by
      rw [List.length_append] at lrow
      exact lrow
    have long : h.length + dn + u.length ≤ h.length + (dn / u.length + 2) * u.length := by omega
    have k1 : ((h.length : Int) + (dn : Int)).toNat = h.length + dn := by omega
    have k2 : ((h.length : Int) + (dn : Int) + (u.length : Int)).toNat = h.length + dn + u.length := by omega
    have lmid : (List.drop ((h.length : Int) + (dn : Int)).toNat (List.take ((h.length : Int) + (dn : Int) + (u.length : Int)).toNat (h ++ rep ((dn : Int) / (u.length : Int) + 2).toNat u))).length * (1 + (en : Int)).toNat ≤ 1000000 := by
      rw [k1, k2, c1, row_mid u0 long, rng_len, show (1 + (en : Int)).toNat = 1 + en by omega, Nat.mul_comm]
      omega
    walk_at "go"
    rw [k1, k2, c1, row_mid u0 long, row_take u0 (by omega), show (1 + (en : Int)).toNat = 1 + en by omega]
    intro p' np
    generalize hU : upd H2 p' _ = H3
    obtain ⟨s3, W3, ap⟩ := new_of W2 np hU
    refine q p' H3 dn (1 + en) ((s1.trans s2).trans (Go.of s3)) W3 (by omega) ⟨ap.at_, ?_, ?_, ?_⟩
    · rw [rng_len]; omega
    · rw [wr_len]; exact Nat.mul_pos (by omega) u0
    · rw [wr_len]; exact ku
theorem mem_ints {x : V} {ns : List Int} {xs : List V} (e : xs = ns.map V.int) (h : x ∈ xs) : ∃ i ∈ ns, x = .int i := by
  subst e
  obtain ⟨i, h1, h2⟩ := List.mem_map.mp h
  exact ⟨i, h1, h2.symm⟩
end
section
variable {P : Program} {wd : World} {K : PySem.W.Frag} {mg : Str → Option Value} {base : Heap} (T : Tp K mg)
def spSpoilt : Sp := fun vs H Q _ => ∃ (w g p : Addr) (h t : List Bool), vs = [.ref w, .ref p] ∧ WellAt w g H ∧ Tab H p h t ∧
  ∀ p' H' (h' t' : List Bool), Go w g H H' → WellAt w g H' → Tab H' p' h' t' → Q (.ref p') H'
theorem ok_spoilt : FnOk P wd K mg base CX0 3 T.a_spoilt T.d_spoilt ["_law_well_here", "_law_x"] spSpoilt := by
  have G_draw : FnOk P wd K mg base CX0 1 T.a_draw T.d_draw ["_law_well_here", "_law_size"] spDraw := ok_draw T
  have G_pick : FnOk P wd K mg base CX0 2 T.a_pick T.d_pick ["_law_well_here", "_law_items"] spPick := ok_pick T
  refine T.F_spoilt.ok sc_spoilt (fun vs H Q E h => ?_) (fun cdv A outer s H vs Q E hr h => ?_)
  · obtain ⟨w, g, p, h, t, rfl, _⟩ := h
    rfl
  · obtain ⟨w, g, p, h, t, rfl, W, tb, q⟩ := h
    refine ⟨_, (pss_cons (ps_set (i := 2) sc_spoilt.nd rfl (Or.inl rfl) (pe_op op_add_str (pe_ix ix_tup (pv 1) pe_int (fun _ _ => rfl)) (pe_ix ix_tup (pv 1) pe_int (fun _ _ => rfl))))
      (pss_cons (ps_set (i := 3) sc_spoilt.nd rfl (Or.inl rfl) (pe_call G_pick hr rfl T.g_pick T.F_pick.kp (b_pick T) .nil pass0 (pa_cons (pv 0) (pa_cons (pe_lst (pa_cons pe_int (pa_cons (pe_op op_sub (pe_callB call_len_str rfl T.n_len PySem.boot_len (pa_cons (pv 2) pa_nil)) pe_int) (pa_cons (pe_call G_draw (hr.mono (by decide)) rfl T.g_draw T.F_draw.kp (b_draw T) .nil pass0 (pa_cons (pv 0) (pa_cons (pe_callB call_len_str rfl T.n_len PySem.boot_len (pa_cons (pv 2) pa_nil)) pa_nil))) (pa_cons (pe_callB (call_max2 rfl) rfl T.n_max (by decide +kernel) (pa_cons pe_int (pa_cons (pe_op op_sub (pe_callB call_len_str rfl T.n_len PySem.boot_len (pa_cons (pe_ix ix_tup (pv 1) pe_int (fun _ _ => rfl)) pa_nil)) pe_int) pa_nil))) pa_nil))))) pa_nil))))
      (pss_cons (ps_set (i := 2) sc_spoilt.nd rfl (Or.inl rfl) (pe_op op_add_str (pe_op op_add_str (pe_slice sl_str (pv 2) po_none (po_some (pv 3))) (pe_ifExp (pt_cmpR op_eq (pe_ix ix_str (pv 2) (pv 3) (fun _ _ => rfl)) pe_str (nomark _)) pe_str pe_str)) (pe_slice sl_str (pv 2) (po_some (pe_op op_add (pv 3) pe_int)) po_none)))
      (pss_one (ps_ret (pe_tup (pa_cons (pe_slice sl_str (pv 2) po_none (po_some (pe_callB call_len_str rfl T.n_len PySem.boot_len (pa_cons (pe_ix ix_tup (pv 1) pe_int (fun _ _ => rfl)) pa_nil)))) (pa_cons (pe_slice sl_str (pv 2) (po_some (pe_callB call_len_str rfl T.n_len PySem.boot_len (pa_cons (pe_ix ix_tup (pv 1) pe_int (fun _ _ => rfl)) pa_nil))) po_none) pa_nil)))))))), ?_⟩
    have hp := tb.1
    have h5 := tb.2.1
    have t0 := tb.2.2.1
    have t5 := tb.2.2.2
    have x0 := W.tup hp
    simp only [B_0, B_1]
    have lr : (h ++ t).length ≤ 10000 := by rw [List.length_append]; omega
    have lr2 : (h ++ t).length = h.length + t.length := List.length_append
    walk_at "go"
    refine ⟨w, g, _, rfl, W, by omega, by omega, fun d H1 s1 W1 d0 d1 => ?_⟩
    have hp1 := (x0.go s1).at_
    walk_at "go"
    intro p1 np1
    generalize hU1 : upd H1 p1 _ = H2
    obtain ⟨s2, W2, ap1⟩ := new_of W1 np1 hU1
    refine ⟨w, g, p1, _, rfl, W2, ap1, by simp, by simp, fun x H3 mx s3 W3 => ?_⟩
    obtain ⟨j, mj, rfl⟩ := mem_ints (ns := [0, ((h ++ t).length : Int) - 1, d, if (h.length : Int) - 1 > 0 then (h.length : Int) - 1 else 0]) rfl mx
    have j01 : 0 ≤ j ∧ j < (h.length : Int) + t.length := by
      simp only [List.mem_cons, List.not_mem_nil, or_false] at mj
      rcases mj with rfl | rfl | rfl | rfl
      · omega
      · omega
      · omega
      · split <;> omega
    have x3 := ((x0.go s1).go (Go.of s2)).go s3
    have hp3 := x3.at_
    walk_at "go"
    refine go_ixS (k := j.toNat) (by omega) (by omega) (getD_some (by omega)) ?_
    rw [B_one]
    walk_at "go"
    rw [B_dec]
    have fin : ∀ (b : Bool) (f : List Bool), f.length = h.length + t.length → (f.take h.length).length = h.length ∧ (f.drop h.length).length = t.length := fun b f hf => by
      rw [List.length_take, List.length_drop]
      omega
    refine ifD (fun e0 => ?_) (fun n0 => ?_)
    all_goals
      walk_at "go"
      have lf : ∀ b : Bool, (((h ++ t).take j.toNat ++ [b]) ++ (h ++ t).drop (j + 1).toNat).length = h.length + t.length := fun b => by
        rw [List.length_append, List.length_append, List.length_take, List.length_drop, List.length_append]
        simp
        omega
      have lf2 : ∀ b : Bool, (((h ++ t).take j.toNat ++ [b]) ++ (h ++ t).drop (j + 1).toNat).length ≤ 1000000 := fun b => by rw [lf]; omega
      have lft := lf2 true
      have lff := lf2 false
      intro p' np
      generalize hU : upd H3 p' _ = H4
      obtain ⟨s4, W4, ap⟩ := new_of W3 np hU
      refine q p' H4 _ _ (((s1.trans (Go.of s2)).trans s3).trans (Go.of s4)) W4 ⟨ap.at_, ?_, ?_, ?_⟩
      · rw [List.length_take, lf]; omega
      · rw [List.length_drop, lf]; omega
      · rw [List.length_drop, lf]; omega
theorem B_sign {l : List Bool} {i c : Nat} (h : (B l).cps[i]? = some c) : ∃ b, l[i]? = some b ∧ (⟨#[c]⟩ : Str) = B [b] := by
  rw [← Array.getElem?_toList, B_cps, List.getElem?_map] at h
  cases e : l[i]? with
  | none => rw [e] at h; cases h
  | some b =>
    rw [e] at h
    obtain rfl := Option.some.inj h
    exact ⟨b, rfl, by cases b <;> rfl⟩
def spSame : Sp := fun vs H Q _ => ∃ (p p' : Addr) (h t h' t' : List Bool), vs = [.ref p, .ref p'] ∧ Tab H p h t ∧ Tab H p' h' t' ∧
  ∀ H' (b : Bool), Same H H' → (b = true ↔ sg h t = sg h' t') → Q (.bl b) H'
theorem ok_same : FnOk P wd K mg base CX0 3 T.a_same T.d_same ["one", "other"] spSame := by
  have G_least : FnOk P wd K mg base CX0 2 T.a_least T.d_least ["table"] spLeast := ok_least T
  refine T.F_same.ok sc_same (fun vs H Q E h => ?_) (fun cdv A outer s H vs Q E hr h => ?_)
  · obtain ⟨p, p', h, t, h', t', rfl, _⟩ := h
    rfl
  · have hu4 : (cxOf CX0 P wd K mg base nm_same "same" (defScope s_same) T.a_same cdv A outer s H E).A.units + 64 < cLine := hr.units
    obtain ⟨p, p', h, t, h', t', rfl, tb, tb', q⟩ := h
    refine ⟨_, (pss_one (ps_ret (pe_cmpR (op_eqD hu4) (pe_call G_least hr rfl T.g_least T.F_least.kp (b_least T) .nil pass0 (pa_cons (pv 0) pa_nil)) (pe_call G_least hr rfl T.g_least T.F_least.kp (b_least T) .nil pass0 (pa_cons (pv 1) pa_nil)) (nomark _)))), ?_⟩
    obtain ⟨s1, per⟩ := per_exists tb.2.2.1
    obtain ⟨m1, beg⟩ := beg_exists (h := h) (t := t) (s := s1)
    obtain ⟨s2, per'⟩ := per_exists tb'.2.2.1
    obtain ⟨m2, beg'⟩ := beg_exists (h := h') (t := t') (s := s2)
    walk_at "go"
    refine ⟨p, h, t, s1, m1, rfl, tb, per, beg, fun a H1 z1 ta => ?_⟩
    walk_at "go"
    refine ⟨p', h', t', s2, m2, rfl, tb'.same z1, per', beg', fun b H2 z2 tc => ?_⟩
    walk_at "go"
    refine ⟨_, _, dp_tab (ta.same z2).1, dp_tab tc.1, shaped_tab _ _, shaped_tab _ _, ?_⟩
    rw [eqv_tab]
    exact q H2 _ (z1.trans z2) (by rw [decide_eq_true_iff]; exact least_eq per beg per' beg')
/-- where two rows part: None, or the least number -/
def Ans (f g : Nat → Bool) (v : V) : Prop := (v = .non ∧ f = g) ∨ ∃ d : Nat, v = .int d ∧ Parts f g d
theorem Ans.uniq {f g : Nat → Bool} {v w : V} (a : Ans f g v) (b : Ans f g w) : v = w := by
  rcases a with ⟨rfl, e⟩ | ⟨d, rfl, x⟩
  · rcases b with ⟨rfl, _⟩ | ⟨d, rfl, y⟩
    · rfl
    · exact absurd (by rw [e]) y.ne
  · rcases b with ⟨rfl, e⟩ | ⟨d', rfl, y⟩
    · exact absurd (by rw [e]) x.ne
    · rw [x.uniq y]
theorem Ans.symm {f g : Nat → Bool} {v : V} (a : Ans f g v) : Ans g f v := by
  rcases a with ⟨rfl, e⟩ | ⟨d, rfl, x⟩
  · exact .inl ⟨rfl, e.symm⟩
  · exact .inr ⟨d, rfl, x.symm⟩
def spParting : Sp := fun vs H Q _ => ∃ (p p' : Addr) (h t h' t' : List Bool), vs = [.ref p, .ref p'] ∧ Tab H p h t ∧ Tab H p' h' t' ∧
  ∀ H' (v : V), Same H H' → Ans (sg h t) (sg h' t') v → Q v H'
theorem ok_parting : FnOk P wd K mg base CX0 2 T.a_parting T.d_parting ["one", "other"] spParting := by
  have G_signs : FnOk P wd K mg base CX0 1 T.a_signs T.d_signs ["table", "many"] spSigns := ok_signs T
  refine T.F_parting.ok sc_parting (fun vs H Q E h => ?_) (fun cdv A outer s H vs Q E hr h => ?_)
  · obtain ⟨p, p', h, t, h', t', rfl, _⟩ := h
    rfl
  · obtain ⟨p, p', h, t, h', t', rfl, tb, tb', q⟩ := h
    refine ⟨_, (pss_cons (ps_set (i := 2) sc_parting.nd rfl (Or.inl rfl) (pe_op op_add (pe_op op_add (pe_callB (call_max2 rfl) rfl T.n_max (by decide +kernel) (pa_cons (pe_callB call_len_str rfl T.n_len PySem.boot_len (pa_cons (pe_ix ix_tup (pv 0) pe_int (fun _ _ => rfl)) pa_nil)) (pa_cons (pe_callB call_len_str rfl T.n_len PySem.boot_len (pa_cons (pe_ix ix_tup (pv 1) pe_int (fun _ _ => rfl)) pa_nil)) pa_nil))) (pe_callB call_len_str rfl T.n_len PySem.boot_len (pa_cons (pe_ix ix_tup (pv 0) pe_int (fun _ _ => rfl)) pa_nil))) (pe_callB call_len_str rfl T.n_len PySem.boot_len (pa_cons (pe_ix ix_tup (pv 1) pe_int (fun _ _ => rfl)) pa_nil))))
      (pss_cons (ps_for PassesOwn.never rfl (pi_enumZ rfl T.n_enumerate rfl T.n_zip (pa_cons (pe_call G_signs hr rfl T.g_signs T.F_signs.kp (b_signs T) .nil pass0 (pa_cons (pv 0) (pa_cons (pv 2) pa_nil))) (pa_cons (pe_call G_signs hr rfl T.g_signs T.F_signs.kp (b_signs T) .nil pass0 (pa_cons (pv 1) (pa_cons (pv 2) pa_nil))) pa_nil))) (pg_tup rfl (pgs_cons (pg_name (i := 3) sc_parting.nd rfl (Or.inl rfl)) (pgs_cons (pg_tup rfl (pgs_cons (pg_name (i := 4) sc_parting.nd rfl (Or.inl rfl)) (pgs_cons (pg_name (i := 5) sc_parting.nd rfl (Or.inl rfl)) pgs_nil))) pgs_nil))) (pss_one (ps_if (pt_cmpR op_ne (pv 4) (pv 5) (nomark _)) (pss_one (ps_ret (pv 3))) pss_nil)))
      (pss_one (ps_ret pe_non)))), ?_⟩
    have hp := tb.1
    have hp' := tb'.1
    have h5 := tb.2.1
    have t0 := tb.2.2.1
    have t5 := tb.2.2.2
    have h5' := tb'.2.1
    have t0' := tb'.2.2.1
    have t5' := tb'.2.2.2
    obtain ⟨N, eN, hN, hN1, hN2, hN3⟩ : ∃ N : Nat, (if (h'.length : Int) > h.length then (h'.length : Int) else h.length) + t.length + t'.length = (N : Int) ∧ N = max h.length h'.length + t.length + t'.length ∧ 0 < N ∧ N ≤ 15000 ∧ True :=
      ⟨max h.length h'.length + t.length + t'.length, by split <;> omega, rfl, by omega, by omega, trivial⟩
    walk_at "go"
    refine ⟨p, h, t, (N : Int), congrArg (fun z => [V.ref p, V.int z]) eN, tb, by omega, by omega, ?_⟩
    walk_at "go"
    refine ⟨p', h', t', (N : Int), congrArg (fun z => [V.ref p', V.int z]) eN, tb', by omega, by omega, ?_⟩
    rw [Int.toNat_natCast]
    have lx : ∀ f : Nat → Bool, (B (rng f 0 N)).cps.size = N := fun f => by
      rw [← Array.length_toList, B_cps, List.length_map, rng_len]
    refine ⟨_, _, rfl, fun z TI TO nz => ?_⟩
    refine for_enumZ (fun i σ H2 => ∃ y2 y3 y4 y5, σ = [some (.ref p), some (.ref p'), y2, y3, y4, y5] ∧ Same H H2 ∧ (i = 0 → H2 z = some (.ext (zN z TI TO))) ∧ (0 < i → ZOut z TI TO H2) ∧ ∀ n, n < i → sg h t n = sg h' t' n)
      (by rw [lx, lx]) (by rw [lx]; exact hN1) ⟨_, _, _, _, rfl, same_new nz, fun _ => upd_same, fun c => absurd c (Nat.lt_irrefl 0), fun n c => absurd c (Nat.not_lt_zero n)⟩ upd_same
      (fun i σ H2 px hi => by obtain ⟨y2, y3, y4, y5, rfl, S, z0, zp, e⟩ := px; exact zp hi) (fun i c d T1 T2 T0 σ H2 hc hd px n1 n2 n12 nz1 nz2 hT0 => ?_)
      (fun σ H2 px => by obtain ⟨y2, y3, y4, y5, rfl, S, z0, zp, e⟩ := px; exact z0 rfl) (fun σ H2 px => ?_)
    · obtain ⟨y2, y3, y4, y5, rfl, S, z0, zp, e⟩ := px
      obtain ⟨b1, hb1, eb1⟩ := B_sign hc
      obtain ⟨b2, hb2, eb2⟩ := B_sign hd
      rw [eb1, eb2]
      have iN : i < N := by
        have := (List.getElem?_eq_some_iff.mp hb1).1
        rw [rng_len] at this
        exact this
      rw [rng_get _ _ _ _ iN, Nat.zero_add] at hb1 hb2
      obtain rfl := Option.some.inj hb1
      obtain rfl := Option.some.inj hb2
      have hzz : ∃ φ, H2 z = some (.ext φ) := by
        by_cases hi : i = 0
        · exact ⟨_, z0 hi⟩
        · obtain ⟨_, _, q1, _⟩ := zp (Nat.pos_of_ne_zero hi)
          exact ⟨_, q1⟩
      obtain ⟨φ, hzφ⟩ := hzz
      have zfree : H z = none := nz
      generalize hU : upd (upd (upd H2 z (.ext (zO z TI TO T0))) T1 (.tup [.str (B [sg h t i]), .str (B [sg h' t' i])])) T2 (.tup [.int (i : Nat), .ref T1]) = H3
      have e2 : H3 T2 = some (.tup [.int (i : Nat), .ref T1]) := by rw [← hU]; exact upd_same
      have e1 : H3 T1 = some (.tup [.str (B [sg h t i]), .str (B [sg h' t' i])]) := by rw [← hU, upd_ne n12]; exact upd_same
      have ez : H3 z = some (.ext (zO z TI TO T0)) := by rw [← hU, upd_ne nz2, upd_ne nz1]; exact upd_same
      have S3 : Same H H3 := fun a o ea => by
        have ea2 := S a o ea
        rw [← hU, upd_ne (ne_of_none ea2 n2), upd_ne (ne_of_none ea2 n1), upd_ne (fun y => by rw [y, zfree] at ea; cases ea)]
        exact ea2
      have zout : ZOut z TI TO H3 := by
        rcases hT0 with rfl | ⟨xs, hxs⟩
        · exact ⟨_, _, ez, e1⟩
        · refine ⟨T0, xs, ez, ?_⟩
          rw [← hU, upd_ne (ne_of_none hxs n2), upd_ne (ne_of_none hxs n1), upd_ne (ne_of hxs hzφ (by intro y; cases y))]
          exact hxs
      walk_at "go"
      rw [B_dec]
      refine ifDn (fun ne => ?_) (fun eq => ?_)
      · walk_at "go"
        exact q _ _ S3 (.inr ⟨i, rfl, fun y => ne (by rw [y]), e⟩)
      · refine ⟨_, _, _, _, rfl, S3, fun c => absurd c (Nat.succ_ne_zero i), fun _ => zout, fun n hn => ?_⟩
        by_cases hni : n = i
        · rw [hni]
          exact (List.cons.inj eq).1
        · exact e n (by omega)
    · obtain ⟨y2, y3, y4, y5, rfl, S, z0, zp, e⟩ := px
      walk_at "go"
      rw [lx] at e
      refine q _ _ S (.inl ⟨rfl, ?_⟩)
      exact sg_same t0 t0' (N := max h.length h'.length) (by omega) (by omega) (by rw [← hN]; exact e)
/-- where two texts of one length part -/
def spParted : Sp := fun vs H Q _ => ∃ (a b : List Bool), vs = [.str (B a), .str (B b)] ∧ a.length = b.length ∧ a.length ≤ 20000 ∧
  ∀ v : V, ((v = .non ∧ a = b) ∨ ∃ d : Nat, v = .int d ∧ d < a.length ∧ a.take d = b.take d ∧ a.take (d + 1) ≠ b.take (d + 1)) → Q v H
theorem ok_parted : FnOk P wd K mg base CX0 1 T.a_parted T.d_parted ["_law_a", "_law_b"] spParted := by
  refine T.F_parted.ok sc_parted (fun vs H Q E h => ?_) (fun cdv A outer s H vs Q E hr h => ?_)
  · obtain ⟨a, b, rfl, _⟩ := h
    rfl
  · obtain ⟨a, b, rfl, lab, la, q⟩ := h
    refine ⟨_, (pss_cons (ps_if (pt_cmpR op_eq (pv 0) (pv 1) (nomark _)) (pss_one (ps_ret pe_non)) pss_nil)
      (pss_cons (ps_par (i := 2) (j := 3) rfl sc_parted.nd rfl rfl (by decide) rfl rfl (pa_cons pe_int (pa_cons (pe_callB call_len_str rfl T.n_len PySem.boot_len (pa_cons (pv 0) pa_nil)) pa_nil)) rfl)
      (pss_cons (ps_for PassesOwn.never rfl (pi_range1 rfl T.n_range (pa_cons pe_int pa_nil)) (pg_name (i := 4) sc_parted.nd rfl (Or.inl rfl)) (pss_cons (ps_set (i := 5) sc_parted.nd rfl (Or.inl rfl) (pe_op op_fdiv (pe_op op_add (pv 2) (pv 3)) pe_int))
      (pss_one (ps_if (pt_cmpR op_eq (pe_slice sl_str (pv 0) po_none (po_some (pv 5))) (pe_slice sl_str (pv 1) po_none (po_some (pv 5))) (nomark _)) (pss_one (ps_set (i := 2) sc_parted.nd rfl (Or.inl rfl) (pv 5))) (pss_one (ps_set (i := 3) sc_parted.nd rfl (Or.inl rfl) (pv 5)))))))
      (pss_one (ps_ret (pv 2)))))), ?_⟩
    walk_at "go"
    rw [B_dec]
    refine ifD (fun eq => ?_) (fun ne => ?_)
    · walk_at "go"
      exact q _ (.inl ⟨rfl, eq⟩)
    · walk_at "go"
      refine for_range (lo := 0) (n := 20) (fun i σ H2 => ∃ (lo hi : Nat) (y4 y5 : Option V), σ = [some (.str (B a)), some (.str (B b)), some (.int lo), some (.int hi), y4, y5] ∧ H2 = H ∧ lo < hi ∧ hi ≤ a.length ∧ a.take lo = b.take lo ∧ a.take hi ≠ b.take hi ∧ (hi - lo - 1) * 2 ^ i < 20000)
        ⟨0, a.length, none, none, rfl, rfl, ?_, Nat.le_refl _, rfl, ?_, ?_⟩ (fun i σ H2 hi20 px => ?_) (fun σ H2 px => ?_)
      · rcases Nat.eq_zero_or_pos a.length with z | z
        · refine absurd ?_ ne
          rw [List.length_eq_zero_iff] at z
          subst z
          exact (List.length_eq_zero_iff.mp lab.symm).symm
        · exact z
      · rw [List.take_length]
        conv => rhs; rw [lab, List.take_length]
        exact ne
      · simp
        omega
      · obtain ⟨lo, hi, y4, y5, rfl, rfl, lh, ha, e1, e2, hx⟩ := px
        obtain ⟨M, eM⟩ : ∃ M, M = (lo + hi) / 2 := ⟨_, rfl⟩
        have cM : ((lo : Int) + (hi : Int)) / 2 = (M : Int) := by omega
        have k1 : (((lo : Int) + (hi : Int)) / 2).toNat = M := by omega
        have two : ∀ d, 2 * d ≤ hi - lo - 1 → d * 2 ^ (i + 1) < 20000 := fun d hd => by
          have h3 : d * 2 ^ (i + 1) = (2 * d) * 2 ^ i := by rw [Nat.pow_succ, Nat.mul_comm 2 d, Nat.mul_assoc, Nat.mul_comm (2 ^ i) 2]
          rw [h3]
          exact Nat.lt_of_le_of_lt (Nat.mul_le_mul_right _ hd) hx
        walk_at "go"
        rw [B_dec, k1]
        refine ifD (fun e => ?_) (fun n => ?_)
        · have hM : M < hi := by omega
          walk_at "go"
          show gName 2 (V.int (((lo : Int) + (hi : Int)) / 2)) _ _ _
          rw [cM]
          exact ⟨M, hi, _, _, rfl, rfl, hM, ha, e, e2, two _ (by omega)⟩
        · have hM : lo < M := by
            rcases Nat.lt_or_ge lo M with z | z
            · exact z
            · have : M = lo := by omega
              rw [this] at n
              exact absurd e1 n
          walk_at "go"
          show gName 3 (V.int (((lo : Int) + (hi : Int)) / 2)) _ _ _
          rw [cM]
          exact ⟨lo, M, _, _, rfl, rfl, hM, by omega, e1, n, two _ (by omega)⟩
      · obtain ⟨lo, hi, y4, y5, rfl, rfl, lh, ha, e1, e2, hx⟩ := px
        have eh : hi = lo + 1 := by
          rcases Nat.lt_or_ge (hi - lo - 1) 1 with z | z
          · omega
          · have : 1 * 2 ^ 20 ≤ (hi - lo - 1) * 2 ^ 20 := Nat.mul_le_mul_right _ z
            omega
        subst eh
        walk_at "go"
        exact q _ (.inr ⟨lo, rfl, by omega, e1, e2⟩)
/-- two words, neither empty -/
def spWords : Sp := fun vs H Q _ => ∃ (w g : Addr) (m : Int), vs = [.ref w, .int m] ∧ WellAt w g H ∧ 40 ≤ m ∧ m ≤ 5000 ∧
  ∀ p H' (u v : List Bool), Go w g H H' → WellAt w g H' → H' p = some (.tup [.str (B u), .str (B v)]) → 0 < u.length → u.length ≤ 5000 → 0 < v.length → v.length ≤ 5000 → Q (.ref p) H'
theorem ok_words : FnOk P wd K mg base CX0 3 T.a_words T.d_words ["_law_well_here", "_law_most"] spWords := by
  have G_draw : FnOk P wd K mg base CX0 1 T.a_draw T.d_draw ["_law_well_here", "_law_size"] spDraw := ok_draw T
  have G_pick : FnOk P wd K mg base CX0 2 T.a_pick T.d_pick ["_law_well_here", "_law_items"] spPick := ok_pick T
  refine T.F_words.ok sc_words (fun vs H Q E h => ?_) (fun cdv A outer s H vs Q E hr h => ?_)
  · obtain ⟨w, g, m, rfl, _⟩ := h
    rfl
  · obtain ⟨w, g, m, rfl, W, m0, m1, q⟩ := h
    refine ⟨_, (pss_cons (ps_asg (pe_tup (pa_cons pe_str (pa_cons pe_str pa_nil))) (pg_tup rfl (pgs_cons (pg_name (i := 2) sc_words.nd rfl (Or.inl rfl)) (pgs_cons (pg_name (i := 3) sc_words.nd rfl (Or.inl rfl)) pgs_nil))))
      (C8.pss_cut (ps_if (PW.pt (pw_and (pt_cmpR op_eq (pv 1) pe_int (nomark _)) (pw_and1 (pt_cmpR op_eq (pe_call G_draw (hr.mono (by decide)) rfl T.g_draw T.F_draw.kp (b_draw T) .nil pass0 (pa_cons (pv 0) (pa_cons pe_int pa_nil))) pe_int (nomark _))))) (pss_cons (ps_set (i := 3) sc_words.nd rfl (Or.inl rfl) (pe_op op_add_str (pe_op op_mulS pe_str (pe_call G_pick hr rfl T.g_pick T.F_pick.kp (b_pick T) .nil pass0 (pa_cons (pv 0) (pa_cons (pe_lst (pa_cons pe_int (pa_cons pe_int (pa_cons pe_int (pa_cons pe_int pa_nil))))) pa_nil)))) pe_str))
      (pss_one (ps_ret (pe_tup (pa_cons (pe_op op_add_str (pv 3) pe_str) (pa_cons (pv 3) pa_nil)))))) pss_nil)
      (pss_cons (ps_for PassesOwn.never rfl (pi_range1 rfl T.n_range (pa_cons pe_int pa_nil)) (pg_name (i := 4) sc_words.nd rfl (Or.inl rfl)) (pss_cons (ps_par (i := 5) (j := 6) rfl sc_words.nd rfl rfl (by decide) rfl rfl (pa_cons (pe_op op_add pe_int (pe_call G_draw (hr.mono (by decide)) rfl T.g_draw T.F_draw.kp (b_draw T) .nil pass0 (pa_cons (pv 0) (pa_cons pe_int pa_nil)))) (pa_cons (pe_cmpR op_eq (pe_call G_draw (hr.mono (by decide)) rfl T.g_draw T.F_draw.kp (b_draw T) .nil pass0 (pa_cons (pv 0) (pa_cons pe_int pa_nil))) pe_int (nomark _)) pa_nil)) rfl)
      (pss_cons (ps_if (pt_cmpR op_gt (pe_op op_add (pe_op op_mul (pv 5) (pe_ifExp (pt_val (pv 6)) (pe_callB call_len_str rfl T.n_len PySem.boot_len (pa_cons (pv 2) pa_nil)) (pe_callB call_len_str rfl T.n_len PySem.boot_len (pa_cons (pv 3) pa_nil)))) (pe_callB (call_max2 rfl) rfl T.n_max (by decide +kernel) (pa_cons (pe_callB call_len_str rfl T.n_len PySem.boot_len (pa_cons (pv 2) pa_nil)) (pa_cons (pe_callB call_len_str rfl T.n_len PySem.boot_len (pa_cons (pv 3) pa_nil)) pa_nil)))) (pv 1) (nomark _)) (pss_one (ps_ret (pe_tup (pa_cons (pv 2) (pa_cons (pv 3) pa_nil))))) pss_nil)
      (pss_one (ps_asg (pe_ifExp (pt_val (pv 6)) (pe_tup (pa_cons (pv 2) (pa_cons (pe_op op_add_str (pe_op op_mulS (pv 2) (pv 5)) (pv 3)) pa_nil))) (pe_tup (pa_cons (pe_op op_add_str (pe_op op_mulS (pv 3) (pv 5)) (pv 2)) (pa_cons (pv 3) pa_nil)))) (pg_tup rfl (pgs_cons (pg_name (i := 2) sc_words.nd rfl (Or.inl rfl)) (pgs_cons (pg_name (i := 3) sc_words.nd rfl (Or.inl rfl)) pgs_nil))))))))
      (pss_one (ps_ret (pe_tup (pa_cons (pv 2) (pa_cons (pv 3) pa_nil)))))))), ?_⟩
    simp only [B_0, B_1]
    walk_at "go"
    intro p0 np0
    generalize hU0 : upd H p0 _ = H1
    obtain ⟨s1, W1, ap0⟩ := new_of W np0 hU0
    have hp0 := ap0.at_
    walk_at "go"
    refine ⟨fun σ' H' => σ' = [some (.ref w), some (.int m), some (.str (B [false])), some (.str (B [true])), none, none, none] ∧ Go w g H H' ∧ WellAt w g H', ?_, ?_⟩
    · walk_at "go"
      refine ifD (fun e5 => ?_) (fun n5 => ?_)
      · walk_at "go"
        refine ⟨w, g, _, rfl, W1, by omega, by omega, fun d H2 s2 W2 d0 d1 => ?_⟩
        walk_at "go"
        refine ifD (fun ed => ?_) (fun nd => ?_)
        · walk_at "go"
          intro p1 np1
          generalize hU1 : upd H2 p1 _ = H3
          obtain ⟨s3, W3, ap1⟩ := new_of W2 np1 hU1
          refine ⟨w, g, p1, _, rfl, W3, ap1, by simp, by simp, fun x H4 mx s4 W4 => ?_⟩
          obtain ⟨j, mj, rfl⟩ := mem_ints (ns := [4998, 4997, 2498, 4000]) rfl mx
          have j01 : 0 ≤ j ∧ j ≤ 4998 := by
            simp at mj
            omega
          have m2 : [false].length * j.toNat ≤ 1000000 := by
            simp only [List.length_cons, List.length_nil]
            omega
          have l1 : (rep j.toNat [false]).length = j.toNat := by rw [rep_length]; simp
          walk_at "go"
          intro p2 np2
          generalize hU2 : upd H4 p2 _ = H5
          obtain ⟨s5, W5, ap2⟩ := new_of W4 np2 hU2
          refine q p2 H5 _ _ (((((Go.of s1).trans s2).trans (Go.of s3)).trans s4).trans (Go.of s5)) W5 ap2.at_ ?_ ?_ ?_ ?_
          all_goals
            simp only [List.length_append, l1, List.length_cons, List.length_nil]
            omega
        · exact ⟨rfl, (Go.of s1).trans s2, W2⟩
      · exact ⟨rfl, Go.of s1, W1⟩
    · rintro σ' H2 ⟨rfl, s2, W2⟩
      walk_at "go"
      refine for_range (lo := 0) (n := 24) (fun i σ H3 => ∃ (u v : List Bool) (y4 y5 y6 : Option V), σ = [some (.ref w), some (.int m), some (.str (B u)), some (.str (B v)), y4, y5, y6] ∧ Go w g H H3 ∧ WellAt w g H3 ∧ 0 < u.length ∧ (u.length : Int) ≤ m ∧ 0 < v.length ∧ (v.length : Int) ≤ m)
        ⟨[false], [true], _, _, _, rfl, s2, W2, by simp, by simp; omega, by simp, by simp; omega⟩ (fun i σ H3 hi px => ?_) (fun σ H3 px => ?_)
      · obtain ⟨u, v, y4, y5, y6, rfl, s3, W3, u0, u1, v0, v1⟩ := px
        walk_at "go"
        refine ⟨w, g, _, rfl, W3, by omega, by omega, fun d H4 s4 W4 d0 d1 => ?_⟩
        walk_at "go"
        refine ⟨w, g, _, rfl, W4, by omega, by omega, fun e H5 s5 W5 e0 e1 => ?_⟩
        walk_at "go"
        generalize decide (V.int e = V.int 0) = bl
        have dm : ∀ l : List Bool, (l.length : Int) ≤ 5000 → 0 < l.length → l.length * (1 + d).toNat ≤ 1000000 := fun l hl _ => mul_le (n := 5000) (m := 4) (by omega) (by omega) (by decide)
        have dmu := dm u (by omega) u0
        have dmv := dm v (by omega) v0
        have nn : ∀ l : List Bool, (1 + d) * (l.length : Int) = (((1 + d).toNat * l.length : Nat) : Int) := fun l => by
          rw [Int.natCast_mul, Int.toNat_of_nonneg (by omega)]
        have S5 := (s3.trans s4).trans s5
        cases bl
        · refine ifB (fun c => absurd c (by decide)) (fun _ => ?_)
          walk_at "go"
          have lf : ((rep (1 + d).toNat v).length + u.length : Nat) = (1 + d).toNat * v.length + u.length := by rw [rep_length]
          have lk : (1 + d).toNat * v.length ≤ 4 * 5000 := Nat.mul_le_mul (by omega) (by omega)
          refine ifD (fun gt => ?_) (fun le => ?_)
          · walk_at "go"
            intro p np
            generalize hU : upd H5 p _ = H6
            obtain ⟨s6, W6, ap⟩ := new_of W5 np hU
            exact q p H6 u v (S5.trans (Go.of s6)) W6 ap.at_ u0 (by omega) v0 (by omega)
          · rw [nn v] at le
            have fit : (((1 + d).toNat * v.length + u.length : Nat) : Int) ≤ m := by
              split at le <;> omega
            have lfa : (rep (1 + d).toNat v ++ u).length = (1 + d).toNat * v.length + u.length := by rw [List.length_append, rep_length]
            walk_at "go"
            intro p np
            generalize hU : upd H5 p _ = H6
            obtain ⟨s6, W6, ap⟩ := new_of W5 np hU
            have hp6 := ap.at_
            walk_at "go"
            exact ⟨rep (1 + d).toNat v ++ u, v, _, _, _, rfl, S5.trans (Go.of s6), W6, by omega, by omega, v0, v1⟩
        · refine ifB (fun _ => ?_) (fun c => by cases c)
          walk_at "go"
          have lf : ((rep (1 + d).toNat u).length + v.length : Nat) = (1 + d).toNat * u.length + v.length := by rw [rep_length]
          have lk : (1 + d).toNat * u.length ≤ 4 * 5000 := Nat.mul_le_mul (by omega) (by omega)
          refine ifD (fun gt => ?_) (fun le => ?_)
          · walk_at "go"
            intro p np
            generalize hU : upd H5 p _ = H6
            obtain ⟨s6, W6, ap⟩ := new_of W5 np hU
            exact q p H6 u v (S5.trans (Go.of s6)) W6 ap.at_ u0 (by omega) v0 (by omega)
          · rw [nn u] at le
            have fit : (((1 + d).toNat * u.length + v.length : Nat) : Int) ≤ m := by
              split at le <;> omega
            have lfa : (rep (1 + d).toNat u ++ v).length = (1 + d).toNat * u.length + v.length := by rw [List.length_append, rep_length]
            walk_at "go"
            intro p np
            generalize hU : upd H5 p _ = H6
            obtain ⟨s6, W6, ap⟩ := new_of W5 np hU
            have hp6 := ap.at_
            walk_at "go"
            exact ⟨u, rep (1 + d).toNat u ++ v, _, _, _, rfl, S5.trans (Go.of s6), W6, u0, u1, by omega, by omega⟩
      · obtain ⟨u, v, y4, y5, y6, rfl, s3, W3, u0, u1, v0, v1⟩ := px
        walk_at "go"
        intro p np
        generalize hU : upd H3 p _ = H4
        obtain ⟨s4, W4, ap⟩ := new_of W3 np hU
        exact q p H4 u v (s3.trans (Go.of s4)) W4 ap.at_ u0 (by omega) v0 (by omega)
end
section
variable {P : Program} {wd : World} {K : PySem.W.Frag} {mg : Str → Option Value} {base : Heap} (T : Tp K mg)
theorem Tab.go {w g p : Addr} {H H' : Hp} {h t : List Bool} (x : Tab H p h t) (W : WellAt w g H) (s : Go w g H H') : Tab H' p h t := ⟨((W.tup x.1).go s).at_, x.2⟩
theorem L_00 : Str.ofString "00" = B [false, false] := by decide +kernel
theorem mem_strs {x : V} {ls : List (List Bool)} {xs : List V} (e : xs = ls.map fun l => V.str (B l)) (h : x ∈ xs) : ∃ l ∈ ls, x = .str (B l) := by
  subst e
  obtain ⟨i, h1, h2⟩ := List.mem_map.mp h
  exact ⟨i, h1, h2.symm⟩
def spPair : Sp := fun vs H Q _ => ∃ (w g : Addr) (k : Int), vs = [.ref w, .int k] ∧ WellAt w g H ∧
  ∀ l H' p p' (h t h' t' : List Bool), Go w g H H' → WellAt w g H' → H' l = some (.lst [.ref p, .ref p']) → Tab H' p h t → Tab H' p' h' t' → Q (.ref l) H'
theorem ok_pair : FnOk P wd K mg base CX0 5 T.a_pair T.d_pair ["_law_well_here", "_law_kind"] spPair := by
  have G_draw : FnOk P wd K mg base CX0 1 T.a_draw T.d_draw ["_law_well_here", "_law_size"] spDraw := ok_draw T
  have G_pick : FnOk P wd K mg base CX0 2 T.a_pick T.d_pick ["_law_well_here", "_law_items"] spPick := ok_pick T
  have G_word : FnOk P wd K mg base CX0 3 T.a_word T.d_word ["_law_well_here", "_law_size"] spBits := ok_word T
  have G_table : FnOk P wd K mg base CX0 4 T.a_table T.d_table ["_law_well_here", "_law_tall", "_law_wide"] spTable := ok_table T
  have G_written : FnOk P wd K mg base CX0 2 T.a_written T.d_written ["_law_well_here", "_law_x", "_law_more"] spWritten := ok_written T
  have G_spoilt : FnOk P wd K mg base CX0 3 T.a_spoilt T.d_spoilt ["_law_well_here", "_law_x"] spSpoilt := ok_spoilt T
  have G_words : FnOk P wd K mg base CX0 3 T.a_words T.d_words ["_law_well_here", "_law_most"] spWords := ok_words T
  refine T.F_pair.ok sc_pair (fun vs H Q E h => ?_) (fun cdv A outer s H vs Q E hr h => ?_)
  · obtain ⟨w, g, k, rfl, _⟩ := h
    rfl
  · obtain ⟨w, g, k, rfl, W, q⟩ := h
    refine ⟨_, (pss_cons (ps_par (i := 2) (j := 3) rfl sc_pair.nd rfl rfl (by decide) rfl rfl (pa_cons (pe_call G_table hr rfl T.g_table T.F_table.kp (b_table T) .nil pass0 (pa_cons (pv 0) (pa_cons (pe_call G_pick (hr.mono (by decide)) rfl T.g_pick T.F_pick.kp (b_pick T) .nil pass0 (pa_cons (pv 0) (pa_cons (pe_lst (pa_cons pe_int (pa_cons pe_int (pa_cons pe_int pa_nil)))) pa_nil))) (pa_cons pe_int pa_nil)))) (pa_cons (pe_call G_word (hr.mono (by decide)) rfl T.g_word T.F_word.kp (b_word T) .nil pass0 (pa_cons (pv 0) (pa_cons (pe_call G_draw (hr.mono (by decide)) rfl T.g_draw T.F_draw.kp (b_draw T) .nil pass0 (pa_cons (pv 0) (pa_cons pe_int pa_nil))) pa_nil))) pa_nil)) rfl)
      (pss_cons (ps_if (pt_cmpR op_eq (pv 1) pe_int (nomark _)) (pss_one (ps_ret (pe_lst (pa_cons (pv 2) (pa_cons (pe_call G_written (hr.mono (by decide)) rfl T.g_written T.F_written.kp (b_written T) .nil pass0 (pa_cons (pv 0) (pa_cons (pv 2) (pa_cons pe_int pa_nil)))) pa_nil))))) pss_nil)
      (pss_cons (ps_if (pt_cmpR op_lt (pv 1) pe_int (nomark _)) (pss_one (ps_ret (pe_lst (pa_cons (pv 2) (pa_cons (pe_call G_spoilt (hr.mono (by decide)) rfl T.g_spoilt T.F_spoilt.kp (b_spoilt T) .nil pass0 (pa_cons (pv 0) (pa_cons (pe_call G_written (hr.mono (by decide)) rfl T.g_written T.F_written.kp (b_written T) .nil pass0 (pa_cons (pv 0) (pa_cons (pv 2) (pa_cons pe_int pa_nil)))) pa_nil))) pa_nil))))) pss_nil)
      (pss_cons (ps_if (pt_cmpR op_eq (pv 1) pe_int (nomark _)) (pss_one (ps_ret (pe_lst (pa_cons (pv 2) (pa_cons (pe_call G_table hr rfl T.g_table T.F_table.kp (b_table T) .nil pass0 (pa_cons (pv 0) (pa_cons pe_int (pa_cons pe_int pa_nil)))) pa_nil))))) pss_nil)
      (pss_cons (ps_if (pt_cmpR op_lt (pv 1) pe_int (nomark _)) (pss_cons (ps_asg (pe_call G_words (hr.mono (by decide)) rfl T.g_words T.F_words.kp (b_words T) .nil pass0 (pa_cons (pv 0) (pa_cons pe_int pa_nil))) (pg_tup rfl (pgs_cons (pg_name (i := 4) sc_pair.nd rfl (Or.inl rfl)) (pgs_cons (pg_name (i := 5) sc_pair.nd rfl (Or.inl rfl)) pgs_nil))))
      (pss_one (ps_ret (pe_lst (pa_cons (pe_call G_written (hr.mono (by decide)) rfl T.g_written T.F_written.kp (b_written T) .nil pass0 (pa_cons (pv 0) (pa_cons (pe_tup (pa_cons (pv 3) (pa_cons (pv 4) pa_nil))) (pa_cons pe_int pa_nil)))) (pa_cons (pe_call G_written (hr.mono (by decide)) rfl T.g_written T.F_written.kp (b_written T) .nil pass0 (pa_cons (pv 0) (pa_cons (pe_tup (pa_cons (pv 3) (pa_cons (pv 5) pa_nil))) (pa_cons pe_int pa_nil)))) pa_nil)))))) pss_nil)
      (pss_cons (ps_if (pt_cmpR op_eq (pv 1) pe_int (nomark _)) (pss_one (ps_ret (pe_lst (pa_cons (pe_call G_spoilt (hr.mono (by decide)) rfl T.g_spoilt T.F_spoilt.kp (b_spoilt T) .nil pass0 (pa_cons (pv 0) (pa_cons (pv 2) pa_nil))) (pa_cons (pe_call G_written (hr.mono (by decide)) rfl T.g_written T.F_written.kp (b_written T) .nil pass0 (pa_cons (pv 0) (pa_cons (pv 2) (pa_cons pe_int pa_nil)))) pa_nil))))) pss_nil)
      (pss_cons (ps_set (i := 3) sc_pair.nd rfl (Or.inl rfl) (pe_call G_word (hr.mono (by decide)) rfl T.g_word T.F_word.kp (b_word T) .nil pass0 (pa_cons (pv 0) (pa_cons (pe_call G_pick (hr.mono (by decide)) rfl T.g_pick T.F_pick.kp (b_pick T) .nil pass0 (pa_cons (pv 0) (pa_cons (pe_lst (pa_cons pe_int (pa_cons pe_int (pa_cons pe_int (pa_cons pe_int (pa_cons (pe_call G_draw (hr.mono (by decide)) rfl T.g_draw T.F_draw.kp (b_draw T) .nil pass0 (pa_cons (pv 0) (pa_cons pe_int pa_nil))) pa_nil)))))) pa_nil))) pa_nil))))
      (pss_cons (ps_if (pt_cmpR op_eq (pe_call G_draw (hr.mono (by decide)) rfl T.g_draw T.F_draw.kp (b_draw T) .nil pass0 (pa_cons (pv 0) (pa_cons pe_int pa_nil))) pe_int (nomark _)) (pss_cons (ps_set (i := 6) sc_pair.nd rfl (Or.inl rfl) (pe_call G_pick (hr.mono (by decide)) rfl T.g_pick T.F_pick.kp (b_pick T) .nil pass0 (pa_cons (pv 0) (pa_cons (pe_lst (pa_cons pe_int (pa_cons pe_int (pa_cons pe_int (pa_cons (pe_op op_add pe_int (pe_call G_draw (hr.mono (by decide)) rfl T.g_draw T.F_draw.kp (b_draw T) .nil pass0 (pa_cons (pv 0) (pa_cons pe_int pa_nil)))) pa_nil))))) pa_nil))))
      (pss_one (ps_ret (pe_lst (pa_cons (pe_tup (pa_cons (pv 3) (pa_cons (pe_op op_add_str (pe_op op_mulS pe_str (pe_op op_sub (pv 6) pe_int)) pe_str) pa_nil))) (pa_cons (pe_tup (pa_cons (pv 3) (pa_cons (pe_call G_pick (hr.mono (by decide)) rfl T.g_pick T.F_pick.kp (b_pick T) .nil pass0 (pa_cons (pv 0) (pa_cons (pe_lst (pa_cons pe_str (pa_cons pe_str (pa_cons (pe_op op_mulS pe_str pe_int) (pa_cons (pe_op op_mulS pe_str pe_int) pa_nil))))) pa_nil))) pa_nil))) pa_nil)))))) pss_nil)
      (pss_cons (ps_asg (pe_call G_words (hr.mono (by decide)) rfl T.g_words T.F_words.kp (b_words T) .nil pass0 (pa_cons (pv 0) (pa_cons pe_int pa_nil))) (pg_tup rfl (pgs_cons (pg_name (i := 4) sc_pair.nd rfl (Or.inl rfl)) (pgs_cons (pg_name (i := 5) sc_pair.nd rfl (Or.inl rfl)) pgs_nil))))
      (pss_one (ps_ret (pe_lst (pa_cons (pe_tup (pa_cons (pv 3) (pa_cons (pv 4) pa_nil))) (pa_cons (pe_call G_written (hr.mono (by decide)) rfl T.g_written T.F_written.kp (b_written T) .nil pass0 (pa_cons (pv 0) (pa_cons (pe_tup (pa_cons (pv 3) (pa_cons (pv 5) pa_nil))) (pa_cons (pe_call G_pick (hr.mono (by decide)) rfl T.g_pick T.F_pick.kp (b_pick T) .nil pass0 (pa_cons (pv 0) (pa_cons (pe_lst (pa_cons pe_int (pa_cons pe_int pa_nil))) pa_nil))) pa_nil)))) pa_nil)))))))))))))), ?_⟩
    simp only [B_0, B_1, L_00]
    walk_at "go"
    intro p1 np1
    generalize hU1 : upd H p1 _ = H1
    obtain ⟨s1, W1, ap1⟩ := new_of W np1 hU1
    refine ⟨w, g, p1, _, rfl, W1, ap1, by simp, by simp, fun x H2 mx s2 W2 => ?_⟩
    obtain ⟨j, mj, rfl⟩ := mem_ints (ns := [0, 3, 9]) rfl mx
    have j01 : 0 ≤ j ∧ j ≤ 9 := by
      simp at mj
      omega
    walk_at "go"
    refine ⟨w, g, _, _, rfl, W2, by omega, by omega, by omega, by omega, fun p H3 h t s3 W3 tb hh ht => ?_⟩
    walk_at "go"
    refine ⟨w, g, _, rfl, W3, by omega, by omega, fun d H4 s4 W4 d0 d1 => ?_⟩
    walk_at "go"
    refine ⟨w, g, _, rfl, W4, by omega, by omega, fun hd H5 s5 W5 lhd => ?_⟩
    have tb5 := (tb.go W3 s4).go W4 s5
    have S5 : Go w g H H5 := ((((Go.of s1).trans s2).trans s3).trans s4).trans s5
    have lh12 : hd.length ≤ 12 := by omega
    walk_at "go"
    refine ifD (fun e0 => ?_) (fun n0 => ?_)
    · walk_at "go"
      refine ⟨w, g, p, h, t, _, rfl, W5, tb5, by omega, by omega, fun p' H6 L k s6 W6 k1 tb' => ?_⟩
      walk_at "go"
      intro l nl
      generalize hU : upd H6 l _ = H7
      obtain ⟨s7, W7, al⟩ := new_of W6 nl hU
      exact q l H7 p p' _ _ _ _ ((S5.trans s6).trans (Go.of s7)) W7 al.at_ ((tb5.go W5 s6).same s7) (tb'.same s7)
    · walk_at "go"
      refine ifD (fun e3 => ?_) (fun n3 => ?_)
      · walk_at "go"
        refine ⟨w, g, p, h, t, _, rfl, W5, tb5, by omega, by omega, fun p' H6 L k s6 W6 k1 tb' => ?_⟩
        walk_at "go"
        refine ⟨w, g, p', _, _, rfl, W6, tb', fun p2 H7 h2 t2 s7 W7 tb2 => ?_⟩
        walk_at "go"
        intro l nl
        generalize hU : upd H7 l _ = H8
        obtain ⟨s8, W8, al⟩ := new_of W7 nl hU
        exact q l H8 p p2 _ _ _ _ (((S5.trans s6).trans s7).trans (Go.of s8)) W8 al.at_ (((tb5.go W5 s6).go W6 s7).same s8) (tb2.same s8)
      · walk_at "go"
        refine ifD (fun e33 => ?_) (fun n33 => ?_)
        · walk_at "go"
          refine ⟨w, g, _, _, rfl, W5, by omega, by omega, by omega, by omega, fun p2 H6 h2 t2 s6 W6 tb2 _ _ => ?_⟩
          walk_at "go"
          intro l nl
          generalize hU : upd H6 l _ = H7
          obtain ⟨s7, W7, al⟩ := new_of W6 nl hU
          exact q l H7 p p2 _ _ _ _ ((S5.trans s6).trans (Go.of s7)) W7 al.at_ ((tb5.go W5 s6).same s7) (tb2.same s7)
        · walk_at "go"
          refine ifD (fun e6 => ?_) (fun n6 => ?_)
          · walk_at "go"
            refine ⟨w, g, _, rfl, W5, by omega, by omega, fun p2 H6 u v s6 W6 hp2 u0 u5 v0 v5 => ?_⟩
            walk_at "go"
            intro p3 np3
            generalize hU3 : upd H6 p3 _ = H7
            obtain ⟨s7, W7, ap3⟩ := new_of W6 np3 hU3
            refine ⟨w, g, p3, hd, u, _, rfl, W7, ⟨ap3.at_, by omega, u0, u5⟩, by omega, by omega, fun pa H8 L1 k1 s8 W8 _ ta => ?_⟩
            walk_at "go"
            intro p4 np4
            generalize hU4 : upd H8 p4 _ = H9
            obtain ⟨s9, W9, ap4⟩ := new_of W8 np4 hU4
            refine ⟨w, g, p4, hd, v, _, rfl, W9, ⟨ap4.at_, by omega, v0, v5⟩, by omega, by omega, fun pb H10 L2 k2 s10 W10 _ tb2 => ?_⟩
            walk_at "go"
            intro l nl
            generalize hU : upd H10 l _ = H11
            obtain ⟨s11, W11, al⟩ := new_of W10 nl hU
            exact q l H11 pa pb _ _ _ _ ((((((S5.trans s6).trans (Go.of s7)).trans s8).trans (Go.of s9)).trans s10).trans (Go.of s11)) W11 al.at_ (((ta.same s9).go W9 s10).same s11) (tb2.same s11)
          · walk_at "go"
            refine ifD (fun e66 => ?_) (fun n66 => ?_)
            · walk_at "go"
              refine ⟨w, g, p, h, t, rfl, W5, tb5, fun p2 H6 h2 t2 s6 W6 tb2 => ?_⟩
              walk_at "go"
              refine ⟨w, g, p, h, t, _, rfl, W6, tb5.go W5 s6, by omega, by omega, fun p' H7 L k s7 W7 k1 tb' => ?_⟩
              walk_at "go"
              intro l nl
              generalize hU : upd H7 l _ = H8
              obtain ⟨s8, W8, al⟩ := new_of W7 nl hU
              exact q l H8 p2 p' _ _ _ _ (((S5.trans s6).trans s7).trans (Go.of s8)) W8 al.at_ ((tb2.go W6 s7).same s8) (tb'.same s8)
            · walk_at "go"
              refine ⟨w, g, _, rfl, W5, by omega, by omega, fun d6 H6 s6 W6 d60 d61 => ?_⟩
              walk_at "go"
              intro p2 np2
              generalize hU2 : upd H6 p2 _ = H7
              obtain ⟨s7, W7, ap2⟩ := new_of W6 np2 hU2
              refine ⟨w, g, p2, _, rfl, W7, ap2, by simp, by simp, fun x H8 mx s8 W8 => ?_⟩
              obtain ⟨i, mi, rfl⟩ := mem_ints (ns := [0, 1, 4999, 5000, d6]) rfl mx
              have i01 : 0 ≤ i ∧ i ≤ 5000 := by
                simp at mi
                omega
              walk_at "go"
              refine ⟨w, g, _, rfl, W8, by omega, by omega, fun hb H9 s9 W9 lhb => ?_⟩
              have hb5 : hb.length ≤ 5000 := by omega
              have S9 : Go w g H H9 := (((S5.trans s6).trans (Go.of s7)).trans s8).trans s9
              walk_at "go"
              refine ⟨w, g, _, rfl, W9, by omega, by omega, fun d10 H10 s10 W10 d100 d101 => ?_⟩
              walk_at "go"
              refine ifD (fun e10 => ?_) (fun n10 => ?_)
              · walk_at "go"
                refine ⟨w, g, _, rfl, W10, by omega, by omega, fun d11 H11 s11 W11 d110 d111 => ?_⟩
                walk_at "go"
                intro p3 np3
                generalize hU3 : upd H11 p3 _ = H12
                obtain ⟨s12, W12, ap3⟩ := new_of W11 np3 hU3
                refine ⟨w, g, p3, _, rfl, W12, ap3, by simp, by simp, fun x H13 mx s13 W13 => ?_⟩
                obtain ⟨z, mz, rfl⟩ := mem_ints (ns := [4999, 5000, 2, 1 + d11]) rfl mx
                have z01 : 1 ≤ z ∧ z ≤ 5000 := by
                  simp at mz
                  omega
                have m1 : [false].length * (z - 1).toNat ≤ 1000000 := by
                  simp only [List.length_cons, List.length_nil]
                  omega
                have l1 : (rep (z - 1).toNat [false]).length = (z - 1).toNat := by rw [rep_length]; simp
                have l2 : (rep (z - 1).toNat [false]).length + [true].length ≤ 1000000 := by
                  rw [l1]
                  simp only [List.length_cons, List.length_nil]
                  omega
                walk_at "go"
                intro p4 np4
                generalize hU4 : upd H13 p4 _ = H14
                obtain ⟨s14, W14, ap4⟩ := new_of W13 np4 hU4
                have ta : Tab H14 p4 hb (rep (z - 1).toNat [false] ++ [true]) := by
                  refine ⟨ap4.at_, hb5, ?_, ?_⟩
                  · rw [List.length_append]; simp
                  · rw [List.length_append, l1]; simp; omega
                have r5 : (rep (5000 : Int).toNat [false]).length = 5000 := by rw [rep_length]; rfl
                have r4 : (rep (4999 : Int).toNat [false]).length = 4999 := by rw [rep_length]; rfl
                have c5 : [false].length * (5000 : Int).toNat ≤ 1000000 := by decide
                have c4 : [false].length * (4999 : Int).toNat ≤ 1000000 := by decide
                walk_at "go"
                intro p5 np5
                generalize hU5 : upd H14 p5 _ = H15
                obtain ⟨s15, W15, ap5⟩ := new_of W14 np5 hU5
                refine ⟨w, g, p5, _, rfl, W15, ap5, by simp, by simp, fun x H16 mx s16 W16 => ?_⟩
                obtain ⟨y, my, rfl⟩ := mem_strs (ls := [[false], [false, false], rep (5000 : Int).toNat [false], rep (4999 : Int).toNat [false]]) rfl mx
                have y01 : 0 < y.length ∧ y.length ≤ 5000 := by
                  simp only [List.mem_cons, List.not_mem_nil, or_false] at my
                  rcases my with rfl | rfl | rfl | rfl
                  · simp
                  · simp
                  · rw [r5]; omega
                  · rw [r4]; omega
                walk_at "go"
                intro p6 np6
                generalize hU6 : upd H16 p6 _ = H17
                obtain ⟨s17, W17, ap6⟩ := new_of W16 np6 hU6
                walk_at "go"
                intro l nl
                generalize hU : upd H17 l _ = H18
                obtain ⟨s18, W18, al⟩ := new_of W17 nl hU
                have tc : Tab H17 p6 hb y := ⟨ap6.at_, hb5, y01.1, y01.2⟩
                exact q l H18 p4 p6 _ _ _ _ (((((((((S9.trans s10).trans s11).trans (Go.of s12)).trans s13).trans (Go.of s14)).trans (Go.of s15)).trans s16).trans (Go.of s17)).trans (Go.of s18)) W18 al.at_ ((((ta.same s15).go W15 s16).same s17).same s18) (tc.same s18)
              · walk_at "go"
                refine ⟨w, g, _, rfl, W10, by omega, by omega, fun p3 H11 u v s11 W11 hp3 u0 u5 v0 v5 => ?_⟩
                walk_at "go"
                intro p4 np4
                generalize hU4 : upd H11 p4 _ = H12
                obtain ⟨s12, W12, ap4⟩ := new_of W11 np4 hU4
                walk_at "go"
                intro p5 np5
                generalize hU5 : upd H12 p5 _ = H13
                obtain ⟨s13, W13, ap5⟩ := new_of W12 np5 hU5
                walk_at "go"
                intro p6 np6
                generalize hU6 : upd H13 p6 _ = H14
                obtain ⟨s14, W14, ap6⟩ := new_of W13 np6 hU6
                refine ⟨w, g, p6, _, rfl, W14, ap6, by simp, by simp, fun x H15 mx s15 W15 => ?_⟩
                obtain ⟨z, mz, rfl⟩ := mem_ints (ns := [1, 5000]) rfl mx
                have z01 : 1 ≤ z ∧ z ≤ 5000 := by
                  simp at mz
                  omega
                have ta : Tab H12 p4 hb u := ⟨ap4.at_, hb5, u0, u5⟩
                have tc : Tab H13 p5 hb v := ⟨ap5.at_, hb5, v0, v5⟩
                have tc15 := (tc.same s14).go W14 s15
                walk_at "go"
                refine ⟨w, g, p5, hb, v, z, rfl, W15, tc15, by omega, by omega, fun pb H16 L2 k2 s16 W16 _ tb2 => ?_⟩
                have ta16 := (((ta.same s13).same s14).go W14 s15).go W15 s16
                walk_at "go"
                intro l nl
                generalize hU : upd H16 l _ = H17
                obtain ⟨s17, W17, al⟩ := new_of W16 nl hU
                exact q l H17 p4 pb _ _ _ _ ((((((((S9.trans s10).trans s11).trans (Go.of s12)).trans (Go.of s13)).trans (Go.of s14)).trans s15).trans s16).trans (Go.of s17)) W17 al.at_ (ta16.same s17) (tb2.same s17)
end
section
variable {P : Program} {wd : World} {K : PySem.W.Frag} {mg : Str → Option Value} {base : Heap} (T : Tp K mg)
theorem kb_parting_other_one : KBinds K T.d_parting ["one", "other"] ["other", "one"] swapW swapW := by
  obtain ⟨oc, od, kV, doc, pm, an, cdv, ct, osl, e, lk, hcd⟩ := T.F_parting.ex
  rw [e]
  exact kbinds_swap fun a b => rfl
theorem kb_same_other_one : KBinds K T.d_same ["one", "other"] ["other", "one"] swapW swapW := by
  obtain ⟨oc, od, kV, doc, pm, an, cdv, ct, osl, e, lk, hcd⟩ := T.F_same.ex
  rw [e]
  exact kbinds_swap fun a b => rfl
theorem small_nat {n : Nat} (h1 : n ≤ 20000) : Small (.int (n : Int)) := by
  have l0 : n.log2 < 1920 := by
    by_cases z : n = 0
    · subst z; decide
    · exact Nat.lt_trans ((Nat.log2_lt z).mpr (show n < 2 ^ 15 by omega)) (by decide)
  refine ⟨?_, rfl, by simp [PyData.depth], ?_, ?_⟩
  · simp only [PyData.showable]
    exact decide_eq_true l0
  · show decide ((PyData.shown (.int (n : Int))).length ≤ 8) = true
    rw [decide_eq_true_eq]
    have e := PyProof.Rows.toString_length_le (v := (n : Int)) (by omega) (k := 5) (by decide) (by omega)
    have e2 : (PyData.shown (.int (n : Int))).length = (Str.ofString (toString (n : Int))).length := rfl
    omega
  · show (if (n : Int) == 0 then 0 else (n : Int).natAbs.log2 + 1) ≤ 20000
    have : (n : Int).natAbs.log2 < 1920 := l0
    split
    · omega
    · omega
/-- None, or a number that is not great -/
def Fit (v : V) : Prop := v = .non ∨ ∃ d : Nat, v = .int d ∧ d ≤ 20000
def dV : V → PyData
  | .int i => .int i
  | _ => .none
theorem fit_dp {H : Hp} {v : V} (f : Fit v) : Dp K H v (dV v) := by
  rcases f with rfl | ⟨d, rfl, _⟩
  · exact .non
  · exact .int _
theorem fit_small {v : V} (f : Fit v) : Small (dV v) := by
  rcases f with rfl | ⟨d, rfl, h⟩
  · exact small_none
  · exact small_nat h
def isn (v : V) : Bool := decide (v = .non)
theorem isn_eq {f g : Nat → Bool} {v : V} {b : Bool} (a : Ans f g v) (h : b = true ↔ f = g) : b = isn v := by
  unfold isn
  rcases a with ⟨rfl, e⟩ | ⟨d, rfl, x⟩
  · rw [h.mpr e]; rfl
  · have : b = false := by
      cases b
      · rfl
      · exact absurd (by rw [h.mp rfl]) x.ne
    rw [this]; rfl
@[irreducible] def dA (v : V) : PyData := .list [.bool (isn v), dV v, .bool (isn v), dV v]
@[irreducible] def dB (v : V) : PyData := .list [dV v, .bool (isn v)]
@[irreducible] def dC (v : V) : PyData := .list [.none, .bool true, dV v]
theorem repr_dA {H : Hp} {R : PyData → Prop} {a : Addr} {v : V} (e : H a = some (.lst [.bl (isn v), v, .bl (isn v), v])) (f : Fit v) (q : R (dA v)) :
    ∃ (a' : Addr) (d' : PyData), [V.ref a] = [V.ref a'] ∧ Dp K H (.ref a') d' ∧ d'.showable = true ∧ d'.hasDict = false ∧ d'.depth ≤ 60 ∧ d'.shown.length ≤ sizeLine ∧ R d' := by
  unfold dA at q
  exact repr_items [.bool (isn v), dV v, .bool (isn v), dV v] e (.cons (.bl _) (.cons (fit_dp f) (.cons (.bl _) (.cons (fit_dp f) .nil))))
    (List.forall_mem_cons.mpr ⟨small_bool _, List.forall_mem_cons.mpr ⟨fit_small f, List.forall_mem_cons.mpr ⟨small_bool _, List.forall_mem_cons.mpr ⟨fit_small f, fun _ z => by cases z⟩⟩⟩⟩) (by simp) q
theorem repr_dB {H : Hp} {R : PyData → Prop} {a : Addr} {v : V} (e : H a = some (.lst [v, .bl (isn v)])) (f : Fit v) (q : R (dB v)) :
    ∃ (a' : Addr) (d' : PyData), [V.ref a] = [V.ref a'] ∧ Dp K H (.ref a') d' ∧ d'.showable = true ∧ d'.hasDict = false ∧ d'.depth ≤ 60 ∧ d'.shown.length ≤ sizeLine ∧ R d' := by
  unfold dB at q
  exact repr_items [dV v, .bool (isn v)] e (.cons (fit_dp f) (.cons (.bl _) .nil))
    (List.forall_mem_cons.mpr ⟨fit_small f, List.forall_mem_cons.mpr ⟨small_bool _, fun _ z => by cases z⟩⟩) (by simp) q
theorem repr_dC {H : Hp} {R : PyData → Prop} {a : Addr} {v : V} (e : H a = some (.lst [.non, .bl true, v])) (f : Fit v) (q : R (dC v)) :
    ∃ (a' : Addr) (d' : PyData), [V.ref a] = [V.ref a'] ∧ Dp K H (.ref a') d' ∧ d'.showable = true ∧ d'.hasDict = false ∧ d'.depth ≤ 60 ∧ d'.shown.length ≤ sizeLine ∧ R d' := by
  unfold dC at q
  exact repr_items [.none, .bool true, dV v] e (.cons .non (.cons (.bl _) (.cons (fit_dp f) .nil)))
    (List.forall_mem_cons.mpr ⟨small_none, List.forall_mem_cons.mpr ⟨small_bool _, List.forall_mem_cons.mpr ⟨fit_small f, fun _ z => by cases z⟩⟩⟩) (by simp) q
/-- the told ones -/
def kv : List V := [.int (2 : Nat), .int (9997 : Nat), .int (0 : Nat), .non, .int (14997 : Nat), .int (9999 : Nat)]
@[irreducible] def dKn : PyData := .list (kv.map dV)
theorem kv_fit : ∀ v ∈ kv, Fit v := by
  unfold kv
  refine List.forall_mem_cons.mpr ⟨.inr ⟨_, rfl, by decide⟩, List.forall_mem_cons.mpr ⟨.inr ⟨_, rfl, by decide⟩, List.forall_mem_cons.mpr ⟨.inr ⟨_, rfl, by decide⟩, List.forall_mem_cons.mpr ⟨.inl rfl,
    List.forall_mem_cons.mpr ⟨.inr ⟨_, rfl, by decide⟩, List.forall_mem_cons.mpr ⟨.inr ⟨_, rfl, by decide⟩, fun _ z => by cases z⟩⟩⟩⟩⟩⟩
theorem dpAll_fit {H : Hp} : ∀ vs : List V, (∀ v ∈ vs, Fit v) → DpAll K H vs (vs.map dV)
  | [], _ => .nil
  | v :: vs, h => .cons (fit_dp (h v List.mem_cons_self)) (dpAll_fit vs fun w hw => h w (List.mem_cons_of_mem _ hw))
theorem repr_kn {H : Hp} {R : PyData → Prop} {a : Addr} {xs : List V} (e : H a = some (.lst xs)) (ex : xs = kv) (q : R dKn) :
    ∃ (a' : Addr) (d' : PyData), [V.ref a] = [V.ref a'] ∧ Dp K H (.ref a') d' ∧ d'.showable = true ∧ d'.hasDict = false ∧ d'.depth ≤ 60 ∧ d'.shown.length ≤ sizeLine ∧ R d' := by
  subst ex
  unfold dKn at q
  exact repr_items (kv.map dV) e (dpAll_fit kv kv_fit) (fun d hd => by obtain ⟨v, hv, rfl⟩ := List.mem_map.mp hd; exact fit_small (kv_fit v hv)) (by simp [kv]) q
/-- a text of noughts -/
structure Nul (k : Nat) (R : List Bool) : Prop where
  len : R.length = k
  no : ∀ n, R.getD n false = false
theorem nul_rep (k : Nat) : Nul k (rep k [false]) := by
  refine ⟨by rw [rep_length]; simp, fun n => ?_⟩
  rw [List.getD_eq_getElem?_getD]
  by_cases h : n < k * 1
  · rw [rep_get k [false] n h]
    have : n % [false].length = 0 := Nat.mod_one n
    rw [this]
    rfl
  · rw [List.getElem?_eq_none (by rw [rep_length]; simpa using h)]
    rfl
theorem Nul.one {k : Nat} {R : List Bool} (z : Nul k R) (n : Nat) : (R ++ [true]).getD n false = decide (n = k) := by
  rw [List.getD_eq_getElem?_getD]
  by_cases h : n < k
  · rw [List.getElem?_append_left (by rw [z.len]; exact h), ← List.getD_eq_getElem?_getD, z.no, decide_eq_false (by omega)]
  · rw [List.getElem?_append_right (by rw [z.len]; omega), z.len]
    by_cases e : n = k
    · rw [e, Nat.sub_self, decide_eq_true rfl]; rfl
    · rw [List.getElem?_eq_none (by simp; omega), decide_eq_false e]; rfl
theorem Nul.two {k : Nat} {R : List Bool} (z : Nul k R) (n : Nat) : (R ++ [true] ++ [false]).getD n false = decide (n = k) := by
  rw [← z.one n, List.getD_eq_getElem?_getD, List.getD_eq_getElem?_getD]
  by_cases h : n < (R ++ [true]).length
  · rw [List.getElem?_append_left h]
  · rw [List.getElem?_append_right (by omega), List.getElem?_eq_none (l := R ++ [true]) (by omega)]
    by_cases e : n - (R ++ [true]).length = 0
    · rw [e]; rfl
    · rw [List.getElem?_eq_none (show 1 ≤ _ by omega)]
theorem part_long {A R : List Bool} (z : Nul 4998 R) : Parts (sg A (R ++ [true])) (sg A (R ++ [true] ++ [false])) (A.length + 9997) := by
  have l1 : (R ++ [true]).length = 4999 := by rw [List.length_append, z.len]; rfl
  have l2 : (R ++ [true] ++ [false]).length = 5000 := by rw [List.length_append, l1]; rfl
  refine ⟨?_, fun n hn => ?_⟩
  · rw [sg_turn (by omega), sg_turn (by omega), z.one, z.two, l1, l2, show A.length + 9997 - A.length = 9997 by omega]
    decide
  · by_cases h : n < A.length
    · rw [sg_head h, sg_head h]
    · rw [sg_turn (by omega), sg_turn (by omega), z.one, z.two, l1, l2]
      exact decide_eq_decide.mpr (by omega)
theorem part_late {A R : List Bool} (y : Nul 5000 A) (z : Nul 4999 R) : Parts (sg A (R ++ [true])) (sg [] [false]) 9999 := by
  have l1 : (R ++ [true]).length = 5000 := by rw [List.length_append, z.len]; rfl
  have g0 : ∀ n, sg [] [false] n = false := fun n => by
    rw [sg_turn (Nat.zero_le _)]
    have : (n - ([] : List Bool).length) % [false].length = 0 := Nat.mod_one _
    rw [this]; rfl
  refine ⟨?_, fun n hn => ?_⟩
  · rw [sg_turn (by rw [y.len]; omega), g0, z.one, l1, y.len]
    decide
  · rw [g0]
    by_cases h : n < A.length
    · rw [sg_head h, y.no]
    · rw [sg_turn (by omega), z.one, l1, y.len]
      rw [y.len] at h
      exact decide_eq_false (by omega)
theorem L_10 : Str.ofString "10" = B [true, false] := by decide +kernel
theorem L_11 : Str.ofString "11" = B [true, true] := by decide +kernel
def spLaw (K : PySem.W.Frag) : Sp := fun vs H Q _ => ∃ (a : Addr) (ns : List Int), vs = [.ref a] ∧ SqL K H a (ns.map V.int) ∧ ns.length ≤ 63 ∧ ∀ H', Q (.bl true) H'
theorem ok_law : FnG P wd K mg base 6 T.a_law T.d_law ["_law_script"] (spLaw K) := by
  have G_well : FnOk P wd K mg base CX0 1 T.a_well T.d_well ["_law_script"] (spWell K) := ok_well T
  have G_draw : FnOk P wd K mg base CX0 1 T.a_draw T.d_draw ["_law_well_here", "_law_size"] spDraw := ok_draw T
  have G_pair : FnOk P wd K mg base CX0 5 T.a_pair T.d_pair ["_law_well_here", "_law_kind"] spPair := ok_pair T
  have G_row : FnOk P wd K mg base CX0 1 T.a_row T.d_row ["_law_x", "_law_size"] spSigns := ok_row T
  have G_parted : FnOk P wd K mg base CX0 1 T.a_parted T.d_parted ["_law_a", "_law_b"] spParted := ok_parted T
  have G_same : FnOk P wd K mg base CX0 3 T.a_same T.d_same ["one", "other"] spSame := ok_same T
  have G_parting : FnOk P wd K mg base CX0 2 T.a_parting T.d_parting ["one", "other"] spParting := ok_parting T
  refine fnG_of T.F_law sc_law (fun vs H Q E h => ?_) (fun cdv A ou s H vs Q E hgd0 hr h => ?_)
  · obtain ⟨a, ns, rfl, _⟩ := h
    rfl
  · have hgd : (cxOf CX0 P wd K mg base nm_law "law" (defScope s_law) T.a_law cdv A ou s H E).nox.A.guards = some [] := hgd0
    have hu4 : (cxOf CX0 P wd K mg base nm_law "law" (defScope s_law) T.a_law cdv A ou s H E).nox.A.units + 64 < cLine := hr.units
    obtain ⟨a, ns, rfl, hS, hl, q⟩ := h
    refine ⟨_, (pss_cons (ps_set (i := 1) sc_law.nd rfl (Or.inl rfl) (pe_call G_well (hr.mono (by decide)) rfl T.g_well T.F_well.kp (b_well T) .nil pass0 (pa_cons (pv 0) pa_nil)))
      (pss_cons (ps_for PassesOwn.never rfl (pi_range1 rfl T.n_range (pa_cons pe_int pa_nil)) (pg_name (i := 2) sc_law.nd rfl (Or.inl rfl)) (pss_cons (ps_asg (pe_call G_pair hr rfl T.g_pair T.F_pair.kp (b_pair T) .nil pass0 (pa_cons (pv 1) (pa_cons (pe_cut (pe_ifExp (pt_cmpR op_lt (pv 2) pe_int (nomark _)) (pe_op op_fdiv (pv 2) pe_int) (pe_op op_sub (pv 2) pe_int))) pa_nil))) (pg_unl rfl (pgs_cons (pg_name (i := 3) sc_law.nd rfl (Or.inl rfl)) (pgs_cons (pg_name (i := 4) sc_law.nd rfl (Or.inl rfl)) pgs_nil))))
      (C8.pss_cut (ps_if (pt_cmpR op_eq (pe_call G_draw (hr.mono (by decide)) rfl T.g_draw T.F_draw.kp (b_draw T) .nil pass0 (pa_cons (pv 1) (pa_cons pe_int pa_nil))) pe_int (nomark _)) (pss_one (ps_par (i := 3) (j := 4) rfl sc_law.nd rfl rfl (by decide) rfl rfl (pa_cons (pv 4) (pa_cons (pv 3) pa_nil)) rfl)) pss_nil)
      (pss_cons (ps_set (i := 5) sc_law.nd rfl (Or.inl rfl) (pe_op op_add (pe_op op_add (pe_callB (call_max2 rfl) rfl T.n_max (by decide +kernel) (pa_cons (pe_callB call_len_str rfl T.n_len PySem.boot_len (pa_cons (pe_ix ix_tup (pv 3) pe_int (fun _ _ => rfl)) pa_nil)) (pa_cons (pe_callB call_len_str rfl T.n_len PySem.boot_len (pa_cons (pe_ix ix_tup (pv 4) pe_int (fun _ _ => rfl)) pa_nil)) pa_nil))) (pe_callB call_len_str rfl T.n_len PySem.boot_len (pa_cons (pe_ix ix_tup (pv 3) pe_int (fun _ _ => rfl)) pa_nil))) (pe_callB call_len_str rfl T.n_len PySem.boot_len (pa_cons (pe_ix ix_tup (pv 4) pe_int (fun _ _ => rfl)) pa_nil))))
      (pss_cons (ps_set (i := 6) sc_law.nd rfl (Or.inl rfl) (pe_call G_parted (hr.mono (by decide)) rfl T.g_parted T.F_parted.kp (b_parted T) .nil pass0 (pa_cons (pe_call G_row (hr.mono (by decide)) rfl T.g_row T.F_row.kp (b_row T) .nil pass0 (pa_cons (pv 3) (pa_cons (pv 5) pa_nil))) (pa_cons (pe_call G_row (hr.mono (by decide)) rfl T.g_row T.F_row.kp (b_row T) .nil pass0 (pa_cons (pv 4) (pa_cons (pv 5) pa_nil))) pa_nil))))
      (pss_cons (ps_set (i := 7) sc_law.nd rfl (Or.inl rfl) (pe_lst (pa_cons (pe_call G_same (hr.mono (by decide)) rfl T.g_same T.F_same.kp (b_same T) .nil pass0 (pa_cons (pv 3) (pa_cons (pv 4) pa_nil))) (pa_cons (pe_call G_parting (hr.mono (by decide)) rfl T.g_parting T.F_parting.kp (b_parting T) .nil pass0 (pa_cons (pv 3) (pa_cons (pv 4) pa_nil))) (pa_cons (pe_call G_same (hr.mono (by decide)) rfl T.g_same T.F_same.kp (b_same T) .nil pass0 (pa_cons (pv 4) (pa_cons (pv 3) pa_nil))) (pa_cons (pe_call G_parting (hr.mono (by decide)) rfl T.g_parting T.F_parting.kp (b_parting T) .nil pass0 (pa_cons (pv 4) (pa_cons (pv 3) pa_nil))) pa_nil))))))
      (pss_cons (ps_if (pt_cmpR op_ne (pe_callB (call_reprD hgd hu4) rfl T.n_repr (by decide +kernel) (pa_cons (pv 7) pa_nil)) (pe_callB (call_reprD hgd hu4) rfl T.n_repr (by decide +kernel) (pa_cons (pe_lst (pa_cons (pe_cmpR op_isN (pv 6) pe_non (nomark _)) (pa_cons (pv 6) (pa_cons (pe_cmpR op_isN (pv 6) pe_non (nomark _)) (pa_cons (pv 6) pa_nil))))) pa_nil)) (nomark _)) (pss_one (ps_ret pe_bl)) pss_nil)
      (pss_cons (ps_if (pt_cmpR op_ne (pe_callB (call_reprD hgd hu4) rfl T.n_repr (by decide +kernel) (pa_cons (pe_lst (pa_cons (pe_callK0 G_parting (hr.mono (by decide)) rfl T.g_parting T.F_parting.kp (kb_parting_other_one T) pass0 (pk_cons (pv 4) (pk_cons (pv 3) pk_nil))) (pa_cons (pe_callK0 G_same (hr.mono (by decide)) rfl T.g_same T.F_same.kp (kb_same_other_one T) pass0 (pk_cons (pv 4) (pk_cons (pv 3) pk_nil))) pa_nil))) pa_nil)) (pe_callB (call_reprD hgd hu4) rfl T.n_repr (by decide +kernel) (pa_cons (pe_lst (pa_cons (pv 6) (pa_cons (pe_cmpR op_isN (pv 6) pe_non (nomark _)) pa_nil))) pa_nil)) (nomark _)) (pss_one (ps_ret pe_bl)) pss_nil)
      (pss_one (ps_if (pt_cmpR op_ne (pe_callB (call_reprD hgd hu4) rfl T.n_repr (by decide +kernel) (pa_cons (pe_lst (pa_cons (pe_call G_parting (hr.mono (by decide)) rfl T.g_parting T.F_parting.kp (b_parting T) .nil pass0 (pa_cons (pv 3) (pa_cons (pv 3) pa_nil))) (pa_cons (pe_call G_same (hr.mono (by decide)) rfl T.g_same T.F_same.kp (b_same T) .nil pass0 (pa_cons (pv 4) (pa_cons (pv 4) pa_nil))) (pa_cons (pe_call G_parting (hr.mono (by decide)) rfl T.g_parting T.F_parting.kp (b_parting T) .nil pass0 (pa_cons (pv 3) (pa_cons (pv 4) pa_nil))) pa_nil)))) pa_nil)) (pe_callB (call_reprD hgd hu4) rfl T.n_repr (by decide +kernel) (pa_cons (pe_lst (pa_cons pe_non (pa_cons pe_bl (pa_cons (pv 6) pa_nil)))) pa_nil)) (nomark _)) (pss_one (ps_ret pe_bl)) pss_nil))))))))))
      (pss_cons (ps_set (i := 8) sc_law.nd rfl (Or.inl rfl) (pe_op op_add_str (pe_op op_mulS pe_str pe_int) pe_str))
      (pss_cons (ps_set (i := 9) sc_law.nd rfl (Or.inl rfl) (pe_lst (pa_cons (pe_tup (pa_cons (pe_tup (pa_cons pe_str (pa_cons pe_str pa_nil))) (pa_cons (pe_tup (pa_cons pe_str (pa_cons pe_str pa_nil))) pa_nil))) (pa_cons (pe_tup (pa_cons (pe_tup (pa_cons pe_str (pa_cons (pv 8) pa_nil))) (pa_cons (pe_tup (pa_cons pe_str (pa_cons (pe_op op_add_str (pv 8) pe_str) pa_nil))) pa_nil))) (pa_cons (pe_tup (pa_cons (pe_tup (pa_cons pe_str (pa_cons pe_str pa_nil))) (pa_cons (pe_tup (pa_cons pe_str (pa_cons pe_str pa_nil))) pa_nil))) pa_nil)))))
      (pss_cons (ps_set (i := 9) sc_law.nd rfl (Or.inl rfl) (pe_op op_cat (pv 9) (pe_lst (pa_cons (pe_tup (pa_cons (pe_tup (pa_cons pe_str (pa_cons pe_str pa_nil))) (pa_cons (pe_tup (pa_cons pe_str (pa_cons pe_str pa_nil))) pa_nil))) (pa_cons (pe_tup (pa_cons (pe_tup (pa_cons (pe_op op_mulS pe_str pe_int) (pa_cons (pv 8) pa_nil))) (pa_cons (pe_tup (pa_cons (pe_op op_mulS pe_str pe_int) (pa_cons (pe_op op_add_str (pv 8) pe_str) pa_nil))) pa_nil))) pa_nil)))))
      (pss_cons (ps_expr (pe_bm PySem.F.plainAttrs_list PySem.F.slot_list_append PySem.F.type_list_append mt_append (pv 9) (pa_cons (pe_tup (pa_cons (pe_tup (pa_cons (pe_op op_mulS pe_str pe_int) (pa_cons (pe_op op_add_str (pe_op op_mulS pe_str pe_int) pe_str) pa_nil))) (pa_cons (pe_tup (pa_cons pe_str (pa_cons pe_str pa_nil))) pa_nil))) pa_nil)))
      (pss_one (ps_ret (pe_cmpR op_eq (pe_callB (call_reprD hgd hu4) rfl T.n_repr (by decide +kernel) (pa_cons (pe_lc (own := [("_law_a", 10), ("_law_b", 11)]) (g := gTup K 2 (gCons (gName 10) (gCons (gName 11) gNil))) rfl sc_law.nd (pi_list (pv 9)) (blkOk_by (N := nm_law) (sc := defScope s_law) (by decide +kernel)) (fun _ _ _ _ _ => pg_tup rfl (pgs_cons (pg_name (i := 10) sc_law.nd rfl (Or.inl rfl) (Or.inr rfl)) (pgs_cons (pg_name (i := 11) sc_law.nd rfl (Or.inl rfl) (Or.inr rfl)) pgs_nil))) (fun _ _ _ _ _ => pts_nil) (fun _ _ _ _ _ => (pe_call G_parting (hr.mono (by decide)) rfl T.g_parting T.F_parting.kp (b_parting T) .nil pass0 (pa_cons (pv 10) (pa_cons (pv 11) pa_nil))))) pa_nil)) (pe_callB (call_reprD hgd hu4) rfl T.n_repr (by decide +kernel) (pa_cons (pe_lst (pa_cons pe_int (pa_cons pe_int (pa_cons pe_int (pa_cons pe_non (pa_cons pe_int (pa_cons pe_int pa_nil))))))) pa_nil)) (nomark _)))))))))), ?_⟩
    walk_at "go"
    refine ⟨a, ns, rfl, hS, hl, fun w g H1 s1 W1 => ?_⟩
    walk_at "go"
    refine for_range (lo := 0) (n := 14) (fun i σ H2 => ∃ y2 y3 y4 y5 y6 y7 y8 y9 y10 y11 : Option V, σ = [some (.ref a), some (.ref w), y2, y3, y4, y5, y6, y7, y8, y9, y10, y11] ∧ WellAt w g H2)
      ⟨_, _, _, _, _, _, _, _, _, _, rfl, W1⟩ (fun i σ H2 hi px => ?_) (fun σ H2 px => ?_)
    · obtain ⟨y2, y3, y4, y5, y6, y7, y8, y9, y10, y11, rfl, W2⟩ := px
      walk_at "go"
      refine ⟨fun v H' => ∃ n : Int, v = .int n ∧ H' = H2, ?_, ?_⟩
      · walk_at "go"
        refine ifD (fun _ => ?_) (fun _ => ?_)
        · walk_at "go"
          exact rfl
        · walk_at "go"
          exact rfl
      · rintro v H3 ⟨n, rfl, rfl⟩
        walk_at "go"
        refine ⟨w, g, n, rfl, W2, fun l H4 px0 py0 h0 t0 h1 t1 s4 W4 hl4 tx0 ty0 => ?_⟩
        walk_at "go"
        refine ⟨fun σ' H' => ∃ (px py : Addr) (h t h' t' : List Bool), σ' = [some (.ref a), some (.ref w), some (.int (0 + (i : Int))), some (.ref px), some (.ref py), y5, y6, y7, y8, y9, y10, y11] ∧ WellAt w g H' ∧ Tab H' px h t ∧ Tab H' py h' t', ?_, ?_⟩
        · walk_at "go"
          refine ⟨w, g, _, rfl, W4, by omega, by omega, fun d H5 s5 W5 d0 d1 => ?_⟩
          walk_at "go"
          refine ifD (fun _ => ?_) (fun _ => ?_)
          · walk_at "go"
            exact ⟨py0, px0, _, _, _, _, rfl, W5, ty0.go W4 s5, tx0.go W4 s5⟩
          · exact ⟨px0, py0, _, _, _, _, rfl, W5, tx0.go W4 s5, ty0.go W4 s5⟩
        · rintro σ' H5 ⟨px, py, h, t, h', t', rfl, W5, tx, ty⟩
          have hx := tx.1
          have hy := ty.1
          have hx5 := tx.2.1
          have tx0' := tx.2.2.1
          have tx5 := tx.2.2.2
          have hy5 := ty.2.1
          have ty0' := ty.2.2.1
          have ty5 := ty.2.2.2
          obtain ⟨N, eN, hN, hN1, hN2⟩ : ∃ N : Nat, (if (h'.length : Int) > h.length then (h'.length : Int) else h.length) + t.length + t'.length = (N : Int) ∧ N = max h.length h'.length + t.length + t'.length ∧ 0 < N ∧ N ≤ 15000 :=
            ⟨max h.length h'.length + t.length + t'.length, by split <;> omega, rfl, by omega, by omega⟩
          walk_at "go"
          refine ⟨px, h, t, (N : Int), congrArg (fun z => [V.ref px, V.int z]) eN, tx, by omega, by omega, ?_⟩
          walk_at "go"
          refine ⟨py, h', t', (N : Int), congrArg (fun z => [V.ref py, V.int z]) eN, ty, by omega, by omega, ?_⟩
          rw [Int.toNat_natCast]
          walk_at "go"
          have lrr : (rng (sg h t) 0 N).length = (rng (sg h' t') 0 N).length := by rw [rng_len, rng_len]
          refine ⟨lrr, by rw [rng_len]; omega, fun v pv => ?_⟩
          have an : Ans (sg h t) (sg h' t') v := by
            rcases pv with ⟨rfl, e⟩ | ⟨d, rfl, hd, e1, e2⟩
            · refine .inl ⟨rfl, sg_same tx0' ty0' (N := max h.length h'.length) (by omega) (by omega) ?_⟩
              rw [← hN]
              exact rng_eq.mp e
            · rw [rng_len] at hd
              rw [rng_take_rng _ (by omega), rng_take_rng _ (by omega)] at e1 e2
              have lo := rng_eq.mp e1
              refine .inr ⟨d, rfl, fun z => e2 (rng_eq.mpr fun k hk => ?_), lo⟩
              by_cases c : k = d
              · rw [c]; exact z
              · exact lo k (by omega)
          have fv : Fit v := by
            rcases pv with ⟨rfl, e⟩ | ⟨d, rfl, hd, e1, e2⟩
            · exact .inl rfl
            · rw [rng_len] at hd
              exact .inr ⟨d, rfl, by omega⟩
          clear pv
          walk_at "go"
          refine ⟨px, py, h, t, h', t', rfl, tx, ty, fun H6 b6 s6 hb6 => ?_⟩
          obtain rfl := isn_eq an hb6
          have tx6 := tx.same s6
          have ty6 := ty.same s6
          walk_at "go"
          refine ⟨px, py, h, t, h', t', rfl, tx6, ty6, fun H7 v7 s7 a7 => ?_⟩
          obtain rfl := a7.uniq an
          have tx7 := tx6.same s7
          have ty7 := ty6.same s7
          walk_at "go"
          refine ⟨py, px, h', t', h, t, rfl, ty7, tx7, fun H8 b8 s8 hb8 => ?_⟩
          obtain rfl := isn_eq an.symm hb8
          have tx8 := tx7.same s8
          have ty8 := ty7.same s8
          walk_at "go"
          refine ⟨py, px, h', t', h, t, rfl, ty8, tx8, fun H9 v9 s9 a9 => ?_⟩
          obtain rfl := a9.uniq an.symm
          have tx9 := tx8.same s9
          have ty9 := ty8.same s9
          have W9 := (((W5.same s6).same s7).same s8).same s9
          walk_at "go"
          intro l1 nl1
          generalize hU1 : upd H9 l1 _ = H10
          obtain ⟨s10, W10, al1⟩ := new_of W9 nl1 hU1
          walk_at "go"
          refine repr_dA al1.at_ fv ?_
          walk_at "go"
          intro l2 nl2
          generalize hU2 : upd H10 l2 _ = H11
          obtain ⟨s11, W11, al2⟩ := new_of W10 nl2 hU2
          refine repr_dA al2.at_ fv ?_
          walk_at "go"
          refine ifDn (fun c => absurd rfl c) (fun _ => ?_)
          have tx11 := (tx9.same s10).same s11
          have ty11 := (ty9.same s10).same s11
          walk_at "go"
          refine ⟨px, py, h, t, h', t', rfl, tx11, ty11, fun H12 v12 s12 a12 => ?_⟩
          obtain rfl := a12.uniq an
          have tx12 := tx11.same s12
          have ty12 := ty11.same s12
          walk_at "go"
          refine ⟨px, py, h, t, h', t', rfl, tx12, ty12, fun H13 b13 s13 hb13 => ?_⟩
          obtain rfl := isn_eq an hb13
          have tx13 := tx12.same s13
          have ty13 := ty12.same s13
          have W13 := (W11.same s12).same s13
          walk_at "go"
          intro l3 nl3
          generalize hU3 : upd H13 l3 _ = H14
          obtain ⟨s14, W14, al3⟩ := new_of W13 nl3 hU3
          refine repr_dB al3.at_ fv ?_
          walk_at "go"
          intro l4 nl4
          generalize hU4 : upd H14 l4 _ = H15
          obtain ⟨s15, W15, al4⟩ := new_of W14 nl4 hU4
          refine repr_dB al4.at_ fv ?_
          walk_at "go"
          refine ifDn (fun c => absurd rfl c) (fun _ => ?_)
          have tx15 := (tx13.same s14).same s15
          have ty15 := (ty13.same s14).same s15
          walk_at "go"
          refine ⟨px, px, h, t, h, t, rfl, tx15, tx15, fun H16 v16 s16 a16 => ?_⟩
          obtain rfl : v16 = .non := a16.uniq (.inl ⟨rfl, rfl⟩)
          have tx16 := tx15.same s16
          have ty16 := ty15.same s16
          walk_at "go"
          refine ⟨py, py, h', t', h', t', rfl, ty16, ty16, fun H17 b17 s17 hb17 => ?_⟩
          obtain rfl : b17 = true := hb17.mpr rfl
          have tx17 := tx16.same s17
          have ty17 := ty16.same s17
          walk_at "go"
          refine ⟨px, py, h, t, h', t', rfl, tx17, ty17, fun H18 v18 s18 a18 => ?_⟩
          obtain rfl := a18.uniq an
          have W18 := ((W15.same s16).same s17).same s18
          walk_at "go"
          intro l5 nl5
          generalize hU5 : upd H18 l5 _ = H19
          obtain ⟨s19, W19, al5⟩ := new_of W18 nl5 hU5
          refine repr_dC al5.at_ fv ?_
          walk_at "go"
          intro l6 nl6
          generalize hU6 : upd H19 l6 _ = H20
          obtain ⟨s20, W20, al6⟩ := new_of W19 nl6 hU6
          refine repr_dC al6.at_ fv ?_
          walk_at "go"
          refine ifDn (fun c => absurd rfl c) (fun _ => ?_)
          exact ⟨_, _, _, _, _, _, _, _, _, _, rfl, W20⟩
    · obtain ⟨y2, y3, y4, y5, y6, y7, y8, y9, y10, y11, rfl, W2⟩ := px
      simp only [B_0, B_1, B_nil, L_01, L_1000, L_10, L_11]
      obtain ⟨R, eR, zR⟩ : ∃ R, rep (4998 : Int).toNat [false] = R ∧ Nul 4998 R := ⟨_, rfl, nul_rep 4998⟩
      obtain ⟨R9, eR9, zR9⟩ : ∃ R, rep (4999 : Int).toNat [false] = R ∧ Nul 4999 R := ⟨_, rfl, nul_rep 4999⟩
      obtain ⟨R0, eR0, zR0⟩ : ∃ R, rep (5000 : Int).toNat [false] = R ∧ Nul 5000 R := ⟨_, rfl, nul_rep 5000⟩
      obtain ⟨A1, eA, lA⟩ : ∃ A, rep (2500 : Int).toNat [false, true] = A ∧ A.length = 5000 := ⟨_, rfl, by rw [rep_length]; rfl⟩
      have c1 : [false].length * (4998 : Int).toNat ≤ 1000000 := by decide
      have c2 : [false].length * (4999 : Int).toNat ≤ 1000000 := by decide
      have c3 : [false].length * (5000 : Int).toNat ≤ 1000000 := by decide
      have c4 : [false, true].length * (2500 : Int).toNat ≤ 1000000 := by decide
      have lR := zR.len
      have lR9 := zR9.len
      have lR0 := zR0.len
      walk_at "go1"
      walk_at "go1"
      walk_at "go1"
      rw [eR]
      intro p1a np1a
      generalize hvp1a : upd H2 p1a _ = H3
      obtain ⟨s3, ap1a⟩ := new_of0 np1a hvp1a
      walk_at "go"
      intro p1b np1b
      generalize hvp1b : upd H3 p1b _ = H4
      obtain ⟨s4, ap1b⟩ := new_of0 np1b hvp1b
      replace ap1a := s4 _ _ ap1a
      walk_at "go"
      intro q1 nq1
      generalize hvq1 : upd H4 q1 _ = H5
      obtain ⟨s5, aq1⟩ := new_of0 nq1 hvq1
      replace ap1a := s5 _ _ ap1a
      replace ap1b := s5 _ _ ap1b
      walk_at "go"
      intro p2a np2a
      generalize hvp2a : upd H5 p2a _ = H6
      obtain ⟨s6, ap2a⟩ := new_of0 np2a hvp2a
      replace ap1a := s6 _ _ ap1a
      replace ap1b := s6 _ _ ap1b
      replace aq1 := s6 _ _ aq1
      walk_at "go"
      intro p2b np2b
      generalize hvp2b : upd H6 p2b _ = H7
      obtain ⟨s7, ap2b⟩ := new_of0 np2b hvp2b
      replace ap1a := s7 _ _ ap1a
      replace ap1b := s7 _ _ ap1b
      replace aq1 := s7 _ _ aq1
      replace ap2a := s7 _ _ ap2a
      walk_at "go"
      intro q2 nq2
      generalize hvq2 : upd H7 q2 _ = H8
      obtain ⟨s8, aq2⟩ := new_of0 nq2 hvq2
      replace ap1a := s8 _ _ ap1a
      replace ap1b := s8 _ _ ap1b
      replace aq1 := s8 _ _ aq1
      replace ap2a := s8 _ _ ap2a
      replace ap2b := s8 _ _ ap2b
      walk_at "go"
      intro p3a np3a
      generalize hvp3a : upd H8 p3a _ = H9
      obtain ⟨s9, ap3a⟩ := new_of0 np3a hvp3a
      replace ap1a := s9 _ _ ap1a
      replace ap1b := s9 _ _ ap1b
      replace aq1 := s9 _ _ aq1
      replace ap2a := s9 _ _ ap2a
      replace ap2b := s9 _ _ ap2b
      replace aq2 := s9 _ _ aq2
      walk_at "go"
      intro p3b np3b
      generalize hvp3b : upd H9 p3b _ = H10
      obtain ⟨s10, ap3b⟩ := new_of0 np3b hvp3b
      replace ap1a := s10 _ _ ap1a
      replace ap1b := s10 _ _ ap1b
      replace aq1 := s10 _ _ aq1
      replace ap2a := s10 _ _ ap2a
      replace ap2b := s10 _ _ ap2b
      replace aq2 := s10 _ _ aq2
      replace ap3a := s10 _ _ ap3a
      walk_at "go"
      intro q3 nq3
      generalize hvq3 : upd H10 q3 _ = H11
      obtain ⟨s11, aq3⟩ := new_of0 nq3 hvq3
      replace ap1a := s11 _ _ ap1a
      replace ap1b := s11 _ _ ap1b
      replace aq1 := s11 _ _ aq1
      replace ap2a := s11 _ _ ap2a
      replace ap2b := s11 _ _ ap2b
      replace aq2 := s11 _ _ aq2
      replace ap3a := s11 _ _ ap3a
      replace ap3b := s11 _ _ ap3b
      walk_at "go"
      intro l1 nl1
      generalize hvl1 : upd H11 l1 _ = H12
      obtain ⟨s12, al1⟩ := new_of0 nl1 hvl1
      replace ap1a := s12 _ _ ap1a
      replace ap1b := s12 _ _ ap1b
      replace aq1 := s12 _ _ aq1
      replace ap2a := s12 _ _ ap2a
      replace ap2b := s12 _ _ ap2b
      replace aq2 := s12 _ _ aq2
      replace ap3a := s12 _ _ ap3a
      replace ap3b := s12 _ _ ap3b
      replace aq3 := s12 _ _ aq3
      walk_at "go"
      intro p4a np4a
      generalize hvp4a : upd H12 p4a _ = H13
      obtain ⟨s13, ap4a⟩ := new_of0 np4a hvp4a
      replace ap1a := s13 _ _ ap1a
      replace ap1b := s13 _ _ ap1b
      replace aq1 := s13 _ _ aq1
      replace ap2a := s13 _ _ ap2a
      replace ap2b := s13 _ _ ap2b
      replace aq2 := s13 _ _ aq2
      replace ap3a := s13 _ _ ap3a
      replace ap3b := s13 _ _ ap3b
      replace aq3 := s13 _ _ aq3
      replace al1 := s13 _ _ al1
      walk_at "go"
      intro p4b np4b
      generalize hvp4b : upd H13 p4b _ = H14
      obtain ⟨s14, ap4b⟩ := new_of0 np4b hvp4b
      replace ap1a := s14 _ _ ap1a
      replace ap1b := s14 _ _ ap1b
      replace aq1 := s14 _ _ aq1
      replace ap2a := s14 _ _ ap2a
      replace ap2b := s14 _ _ ap2b
      replace aq2 := s14 _ _ aq2
      replace ap3a := s14 _ _ ap3a
      replace ap3b := s14 _ _ ap3b
      replace aq3 := s14 _ _ aq3
      replace al1 := s14 _ _ al1
      replace ap4a := s14 _ _ ap4a
      walk_at "go"
      intro q4 nq4
      generalize hvq4 : upd H14 q4 _ = H15
      obtain ⟨s15, aq4⟩ := new_of0 nq4 hvq4
      replace ap1a := s15 _ _ ap1a
      replace ap1b := s15 _ _ ap1b
      replace aq1 := s15 _ _ aq1
      replace ap2a := s15 _ _ ap2a
      replace ap2b := s15 _ _ ap2b
      replace aq2 := s15 _ _ aq2
      replace ap3a := s15 _ _ ap3a
      replace ap3b := s15 _ _ ap3b
      replace aq3 := s15 _ _ aq3
      replace al1 := s15 _ _ al1
      replace ap4a := s15 _ _ ap4a
      replace ap4b := s15 _ _ ap4b
      walk_at "go"
      rw [eA]
      intro p5a np5a
      generalize hvp5a : upd H15 p5a _ = H16
      obtain ⟨s16, ap5a⟩ := new_of0 np5a hvp5a
      replace ap1a := s16 _ _ ap1a
      replace ap1b := s16 _ _ ap1b
      replace aq1 := s16 _ _ aq1
      replace ap2a := s16 _ _ ap2a
      replace ap2b := s16 _ _ ap2b
      replace aq2 := s16 _ _ aq2
      replace ap3a := s16 _ _ ap3a
      replace ap3b := s16 _ _ ap3b
      replace aq3 := s16 _ _ aq3
      replace al1 := s16 _ _ al1
      replace ap4a := s16 _ _ ap4a
      replace ap4b := s16 _ _ ap4b
      replace aq4 := s16 _ _ aq4
      walk_at "go"
      rw [eA]
      intro p5b np5b
      generalize hvp5b : upd H16 p5b _ = H17
      obtain ⟨s17, ap5b⟩ := new_of0 np5b hvp5b
      replace ap1a := s17 _ _ ap1a
      replace ap1b := s17 _ _ ap1b
      replace aq1 := s17 _ _ aq1
      replace ap2a := s17 _ _ ap2a
      replace ap2b := s17 _ _ ap2b
      replace aq2 := s17 _ _ aq2
      replace ap3a := s17 _ _ ap3a
      replace ap3b := s17 _ _ ap3b
      replace aq3 := s17 _ _ aq3
      replace al1 := s17 _ _ al1
      replace ap4a := s17 _ _ ap4a
      replace ap4b := s17 _ _ ap4b
      replace aq4 := s17 _ _ aq4
      replace ap5a := s17 _ _ ap5a
      walk_at "go"
      intro q5 nq5
      generalize hvq5 : upd H17 q5 _ = H18
      obtain ⟨s18, aq5⟩ := new_of0 nq5 hvq5
      replace ap1a := s18 _ _ ap1a
      replace ap1b := s18 _ _ ap1b
      replace aq1 := s18 _ _ aq1
      replace ap2a := s18 _ _ ap2a
      replace ap2b := s18 _ _ ap2b
      replace aq2 := s18 _ _ aq2
      replace ap3a := s18 _ _ ap3a
      replace ap3b := s18 _ _ ap3b
      replace aq3 := s18 _ _ aq3
      replace al1 := s18 _ _ al1
      replace ap4a := s18 _ _ ap4a
      replace ap4b := s18 _ _ ap4b
      replace aq4 := s18 _ _ aq4
      replace ap5a := s18 _ _ ap5a
      replace ap5b := s18 _ _ ap5b
      walk_at "go"
      intro l2 nl2
      generalize hvl2 : upd H18 l2 _ = H19
      obtain ⟨s19, al2⟩ := new_of0 nl2 hvl2
      replace ap1a := s19 _ _ ap1a
      replace ap1b := s19 _ _ ap1b
      replace aq1 := s19 _ _ aq1
      replace ap2a := s19 _ _ ap2a
      replace ap2b := s19 _ _ ap2b
      replace aq2 := s19 _ _ aq2
      replace ap3a := s19 _ _ ap3a
      replace ap3b := s19 _ _ ap3b
      replace aq3 := s19 _ _ aq3
      replace al1 := s19 _ _ al1
      replace ap4a := s19 _ _ ap4a
      replace ap4b := s19 _ _ ap4b
      replace aq4 := s19 _ _ aq4
      replace ap5a := s19 _ _ ap5a
      replace ap5b := s19 _ _ ap5b
      replace aq5 := s19 _ _ aq5
      refine ⟨l1, l2, _, _, rfl, rfl, al1, al2, szl (by simp), fun l3 nl3 => ?_⟩
      generalize hvl3 : upd H19 l3 _ = H20
      obtain ⟨s20, al3⟩ := new_of0 nl3 hvl3
      replace ap1a := s20 _ _ ap1a
      replace ap1b := s20 _ _ ap1b
      replace aq1 := s20 _ _ aq1
      replace ap2a := s20 _ _ ap2a
      replace ap2b := s20 _ _ ap2b
      replace aq2 := s20 _ _ aq2
      replace ap3a := s20 _ _ ap3a
      replace ap3b := s20 _ _ ap3b
      replace aq3 := s20 _ _ aq3
      replace al1 := s20 _ _ al1
      replace ap4a := s20 _ _ ap4a
      replace ap4b := s20 _ _ ap4b
      replace aq4 := s20 _ _ aq4
      replace ap5a := s20 _ _ ap5a
      replace ap5b := s20 _ _ ap5b
      replace aq5 := s20 _ _ aq5
      replace al2 := s20 _ _ al2
      walk_at "go"
      refine ⟨Or.inl ⟨rfl, _, sqL_of al3⟩, ?_⟩
      walk_at "go"
      rw [eR0, eR9]
      intro p6a np6a
      generalize hvp6a : upd H20 p6a _ = H21
      obtain ⟨s21, ap6a⟩ := new_of0 np6a hvp6a
      replace ap1a := s21 _ _ ap1a
      replace ap1b := s21 _ _ ap1b
      replace aq1 := s21 _ _ aq1
      replace ap2a := s21 _ _ ap2a
      replace ap2b := s21 _ _ ap2b
      replace aq2 := s21 _ _ aq2
      replace ap3a := s21 _ _ ap3a
      replace ap3b := s21 _ _ ap3b
      replace aq3 := s21 _ _ aq3
      replace al1 := s21 _ _ al1
      replace ap4a := s21 _ _ ap4a
      replace ap4b := s21 _ _ ap4b
      replace aq4 := s21 _ _ aq4
      replace ap5a := s21 _ _ ap5a
      replace ap5b := s21 _ _ ap5b
      replace aq5 := s21 _ _ aq5
      replace al2 := s21 _ _ al2
      replace al3 := s21 _ _ al3
      walk_at "go"
      intro p6b np6b
      generalize hvp6b : upd H21 p6b _ = H22
      obtain ⟨s22, ap6b⟩ := new_of0 np6b hvp6b
      replace ap1a := s22 _ _ ap1a
      replace ap1b := s22 _ _ ap1b
      replace aq1 := s22 _ _ aq1
      replace ap2a := s22 _ _ ap2a
      replace ap2b := s22 _ _ ap2b
      replace aq2 := s22 _ _ aq2
      replace ap3a := s22 _ _ ap3a
      replace ap3b := s22 _ _ ap3b
      replace aq3 := s22 _ _ aq3
      replace al1 := s22 _ _ al1
      replace ap4a := s22 _ _ ap4a
      replace ap4b := s22 _ _ ap4b
      replace aq4 := s22 _ _ aq4
      replace ap5a := s22 _ _ ap5a
      replace ap5b := s22 _ _ ap5b
      replace aq5 := s22 _ _ aq5
      replace al2 := s22 _ _ al2
      replace al3 := s22 _ _ al3
      replace ap6a := s22 _ _ ap6a
      walk_at "go"
      intro q6 nq6
      generalize hvq6 : upd H22 q6 _ = H23
      obtain ⟨s23, aq6⟩ := new_of0 nq6 hvq6
      replace ap1a := s23 _ _ ap1a
      replace ap1b := s23 _ _ ap1b
      replace aq1 := s23 _ _ aq1
      replace ap2a := s23 _ _ ap2a
      replace ap2b := s23 _ _ ap2b
      replace aq2 := s23 _ _ aq2
      replace ap3a := s23 _ _ ap3a
      replace ap3b := s23 _ _ ap3b
      replace aq3 := s23 _ _ aq3
      replace al1 := s23 _ _ al1
      replace ap4a := s23 _ _ ap4a
      replace ap4b := s23 _ _ ap4b
      replace aq4 := s23 _ _ aq4
      replace ap5a := s23 _ _ ap5a
      replace ap5b := s23 _ _ ap5b
      replace aq5 := s23 _ _ aq5
      replace al2 := s23 _ _ al2
      replace al3 := s23 _ _ al3
      replace ap6a := s23 _ _ ap6a
      replace ap6b := s23 _ _ ap6b
      walk_at "go"
      refine ⟨l3, _, _, rfl, rfl, al3, szl (by simp), ?_⟩
      generalize hvapp : upd H23 l3 _ = H24
      have keep : ∀ b xs, H23 b = some (HO.tup xs) → H24 b = some (HO.tup xs) := fun b xs e => by rw [← hvapp, upd_ne (ne_of e al3 (by intro z; cases z))]; exact e
      replace al3 : H24 l3 = some (HO.lst [V.ref q1, V.ref q2, V.ref q3, V.ref q4, V.ref q5, V.ref q6]) := by rw [← hvapp]; exact upd_same
      replace ap1a := keep _ _ ap1a
      replace ap1b := keep _ _ ap1b
      replace aq1 := keep _ _ aq1
      replace ap2a := keep _ _ ap2a
      replace ap2b := keep _ _ ap2b
      replace aq2 := keep _ _ aq2
      replace ap3a := keep _ _ ap3a
      replace ap3b := keep _ _ ap3b
      replace aq3 := keep _ _ aq3
      replace ap4a := keep _ _ ap4a
      replace ap4b := keep _ _ ap4b
      replace aq4 := keep _ _ aq4
      replace ap5a := keep _ _ ap5a
      replace ap5b := keep _ _ ap5b
      replace aq5 := keep _ _ aq5
      replace ap6a := keep _ _ ap6a
      replace ap6b := keep _ _ ap6b
      replace aq6 := keep _ _ aq6
      walk_at "go"
      refine ⟨⟨_, sqL_of al3⟩, fun D nD => ?_⟩
      have l1 : (R ++ [true]).length = 4999 := by rw [List.length_append, lR]; rfl
      have l2 : (R ++ [true] ++ [false]).length = 5000 := by rw [List.length_append, l1]; rfl
      have l9 : (R9 ++ [true]).length = 5000 := by rw [List.length_append, lR9]; rfl
      have hkn : ∀ (i : Nat) (x : V), [V.ref q1, V.ref q2, V.ref q3, V.ref q4, V.ref q5, V.ref q6][i]? = some x → ∃ (p pa pb : Addr) (h t h' t' : List Bool) (v : V), x = .ref p ∧ H24 p = some (.tup [.ref pa, .ref pb]) ∧
          Tab H24 pa h t ∧ Tab H24 pb h' t' ∧ kv[i]? = some v ∧ Ans (sg h t) (sg h' t') v := fun i x hx => by
        have hi : i < 6 := (List.getElem?_eq_some_iff.mp hx).1
        rcases i with _ | _ | _ | _ | _ | _ | i
        · obtain rfl := Option.some.inj hx
          exact ⟨q1, p1a, p1b, _, _, _, _, _, rfl, aq1, ⟨ap1a, by decide, by decide, by decide⟩, ⟨ap1b, by decide, by decide, by decide⟩, rfl, .inr ⟨2, rfl, by decide, by decide⟩⟩
        · obtain rfl := Option.some.inj hx
          refine ⟨q2, p2a, p2b, _, _, _, _, _, rfl, aq2, ⟨ap2a, by decide, by omega, by omega⟩, ⟨ap2b, by decide, by omega, by omega⟩, rfl, .inr ⟨9997, rfl, ?_⟩⟩
          have e := part_long (A := []) zR
          rw [show ([] : List Bool).length + 9997 = 9997 from rfl] at e
          exact e
        · obtain rfl := Option.some.inj hx
          exact ⟨q3, p3a, p3b, _, _, _, _, _, rfl, aq3, ⟨ap3a, by decide, by decide, by decide⟩, ⟨ap3b, by decide, by decide, by decide⟩, rfl, .inr ⟨0, rfl, by decide, by decide⟩⟩
        · obtain rfl := Option.some.inj hx
          exact ⟨q4, p4a, p4b, _, _, _, _, _, rfl, aq4, ⟨ap4a, by decide, by decide, by decide⟩, ⟨ap4b, by decide, by decide, by decide⟩, rfl, .inl ⟨rfl, sg_same (N := 0) (by decide) (by decide) (by decide) (by decide) (by decide)⟩⟩
        · obtain rfl := Option.some.inj hx
          refine ⟨q5, p5a, p5b, _, _, _, _, _, rfl, aq5, ⟨ap5a, by omega, by omega, by omega⟩, ⟨ap5b, by omega, by omega, by omega⟩, rfl, .inr ⟨14997, rfl, ?_⟩⟩
          have e := part_long (A := A1) zR
          rw [lA] at e
          exact e
        · obtain rfl := Option.some.inj hx
          exact ⟨q6, p6a, p6b, _, _, _, _, _, rfl, aq6, ⟨ap6a, by omega, by omega, by omega⟩, ⟨ap6b, by decide, by decide, by decide⟩, rfl, .inr ⟨9999, rfl, part_late zR0 zR9⟩⟩
        · omega
      refine lc_list (xs := [V.ref q1, V.ref q2, V.ref q3, V.ref q4, V.ref q5, V.ref q6]) (fun i H' => ∃ vs : List V, H' D = some (.lst vs) ∧ vs.length = i ∧ Same H24 H' ∧ ∀ (j : Nat) (u : V), vs[j]? = some u → kv[j]? = some u) ⟨[], upd_same, rfl, same_new nD, fun j u h => by cases h⟩
        (fun i H' _ px => sqL_of (px.choose_spec.2.2.1 _ _ al3)) (fun i x H' hx px => ?_) (fun H' px => ?_)
      · obtain ⟨vs, hD, hvl, S, hv⟩ := px
        have hi : i < 6 := (List.getElem?_eq_some_iff.mp hx).1
        obtain ⟨p, pa, pb, h, t, h', t', v, rfl, hp, ta, tb, hkv, an⟩ := hkn i x hx
        have hpS := S _ _ hp
        walk_at "go"
        refine ⟨pa, pb, h, t, h', t', rfl, ta.same S, tb.same S, fun H3 v3 s3 a3 => ?_⟩
        obtain rfl := a3.uniq an
        refine ⟨vs, s3 _ _ hD, szl (by omega), vs ++ [v3], upd_same, by rw [List.length_append, hvl]; rfl, same_mut (S.trans s3) nD, fun j u hj => ?_⟩
        by_cases hjl : j < vs.length
        · rw [List.getElem?_append_left hjl] at hj
          exact hv j u hj
        · rw [List.getElem?_append_right (by omega)] at hj
          have hj0 : j - vs.length < 1 := (List.getElem?_eq_some_iff.mp hj).1
          have ej : j = i := by omega
          subst ej
          rw [show j - vs.length = 0 by omega] at hj
          obtain rfl := Option.some.inj hj
          exact hkv
      · obtain ⟨vs, hD, hvl, S, hv⟩ := px
        have evs : vs = kv := List.ext_getElem? fun j => by
          by_cases hj : j < 6
          · obtain ⟨u, hu⟩ : ∃ u, vs[j]? = some u := ⟨_, List.getElem?_eq_getElem (by rw [hvl]; exact hj)⟩
            rw [hu, hv j u hu]
          · rw [List.getElem?_eq_none (by rw [hvl]; exact Nat.le_of_not_lt hj), List.getElem?_eq_none (show 6 ≤ j by omega)]
        refine repr_kn hD evs ?_
        walk_at "go"
        intro lz nlz
        generalize hvz : upd H' lz _ = H25
        obtain ⟨s25, alz⟩ := new_of0 nlz hvz
        refine repr_kn alz rfl ?_
        walk_at "go"
        rw [decide_eq_true rfl]
        exact q _
end
theorem all_mk {l : PySem.W.OpenLaw} {w : World} {K : PySem.W.Frag} {h : Heap} {mg : Str → Option Value} {fa : Addr} (X : K.In h) (G : h.Ns mainGlobals mg) (hfa : mg "law" = some (.ref fa))
    {f_least : Addr} {od_least an_least : Option Addr} {sl_least : Array (Option Value)} {oc_least kV_least dc_least pm_least cd_least ct_least : Value}
    {f_shortest : Addr} {od_shortest an_shortest : Option Addr} {sl_shortest : Array (Option Value)} {oc_shortest kV_shortest dc_shortest pm_shortest cd_shortest ct_shortest : Value}
    {f_alike : Addr} {od_alike an_alike : Option Addr} {sl_alike : Array (Option Value)} {oc_alike kV_alike dc_alike pm_alike cd_alike ct_alike : Value}
    {f_signs : Addr} {od_signs an_signs : Option Addr} {sl_signs : Array (Option Value)} {oc_signs kV_signs dc_signs pm_signs cd_signs ct_signs : Value}
    {f_same : Addr} {od_same an_same : Option Addr} {sl_same : Array (Option Value)} {oc_same kV_same dc_same pm_same cd_same ct_same : Value}
    {f_parting : Addr} {od_parting an_parting : Option Addr} {sl_parting : Array (Option Value)} {oc_parting kV_parting dc_parting pm_parting cd_parting ct_parting : Value}
    {f_well : Addr} {od_well an_well : Option Addr} {sl_well : Array (Option Value)} {oc_well kV_well dc_well pm_well cd_well ct_well : Value}
    {f_draw : Addr} {od_draw an_draw : Option Addr} {sl_draw : Array (Option Value)} {oc_draw kV_draw dc_draw pm_draw cd_draw ct_draw : Value}
    {f_pick : Addr} {od_pick an_pick : Option Addr} {sl_pick : Array (Option Value)} {oc_pick kV_pick dc_pick pm_pick cd_pick ct_pick : Value}
    {f_bits : Addr} {od_bits an_bits : Option Addr} {sl_bits : Array (Option Value)} {oc_bits kV_bits dc_bits pm_bits cd_bits ct_bits : Value}
    {f_word : Addr} {od_word an_word : Option Addr} {sl_word : Array (Option Value)} {oc_word kV_word dc_word pm_word cd_word ct_word : Value}
    {f_table : Addr} {od_table an_table : Option Addr} {sl_table : Array (Option Value)} {oc_table kV_table dc_table pm_table cd_table ct_table : Value}
    {f_written : Addr} {od_written an_written : Option Addr} {sl_written : Array (Option Value)} {oc_written kV_written dc_written pm_written cd_written ct_written : Value}
    {f_row : Addr} {od_row an_row : Option Addr} {sl_row : Array (Option Value)} {oc_row kV_row dc_row pm_row cd_row ct_row : Value}
    {f_spoilt : Addr} {od_spoilt an_spoilt : Option Addr} {sl_spoilt : Array (Option Value)} {oc_spoilt kV_spoilt dc_spoilt pm_spoilt cd_spoilt ct_spoilt : Value}
    {f_words : Addr} {od_words an_words : Option Addr} {sl_words : Array (Option Value)} {oc_words kV_words dc_words pm_words cd_words ct_words : Value}
    {f_pair : Addr} {od_pair an_pair : Option Addr} {sl_pair : Array (Option Value)} {oc_pair kV_pair dc_pair pm_pair cd_pair ct_pair : Value}
    {f_parted : Addr} {od_parted an_parted : Option Addr} {sl_parted : Array (Option Value)} {oc_parted kV_parted dc_parted pm_parted cd_parted ct_parted : Value}
    {f_law : Addr} {od_law an_law : Option Addr} {sl_law : Array (Option Value)} {oc_law kV_law dc_law pm_law cd_law ct_law : Value}
    (a_least : PySem.W.nsIn K mainGlobals "least" = some (some (.ref f_least)))
    (l_least : K.lookup f_least = some ⟨oc_least, od_least, .func (PySem.W.fnOf "least" "least" (defArgs s_least) (defBody s_least) (defScope s_least) .none kV_least dc_least pm_least an_least cd_least ct_least), sl_least⟩)
    (c_least : PySem.W.codeIn K cd_least "least" = true) (k_least : PySem.W.keepIn K (.ref f_least) = true)
    (a_shortest : PySem.W.nsIn K mainGlobals "_shortest_turn" = some (some (.ref f_shortest)))
    (l_shortest : K.lookup f_shortest = some ⟨oc_shortest, od_shortest, .func (PySem.W.fnOf "_shortest_turn" "_shortest_turn" (defArgs s_shortest) (defBody s_shortest) (defScope s_shortest) .none kV_shortest dc_shortest pm_shortest an_shortest cd_shortest ct_shortest), sl_shortest⟩)
    (c_shortest : PySem.W.codeIn K cd_shortest "_shortest_turn" = true) (k_shortest : PySem.W.keepIn K (.ref f_shortest) = true)
    (a_alike : PySem.W.nsIn K mainGlobals "_alike_signs" = some (some (.ref f_alike)))
    (l_alike : K.lookup f_alike = some ⟨oc_alike, od_alike, .func (PySem.W.fnOf "_alike_signs" "_alike_signs" (defArgs s_alike) (defBody s_alike) (defScope s_alike) .none kV_alike dc_alike pm_alike an_alike cd_alike ct_alike), sl_alike⟩)
    (c_alike : PySem.W.codeIn K cd_alike "_alike_signs" = true) (k_alike : PySem.W.keepIn K (.ref f_alike) = true)
    (a_signs : PySem.W.nsIn K mainGlobals "signs" = some (some (.ref f_signs)))
    (l_signs : K.lookup f_signs = some ⟨oc_signs, od_signs, .func (PySem.W.fnOf "signs" "signs" (defArgs s_signs) (defBody s_signs) (defScope s_signs) .none kV_signs dc_signs pm_signs an_signs cd_signs ct_signs), sl_signs⟩)
    (c_signs : PySem.W.codeIn K cd_signs "signs" = true) (k_signs : PySem.W.keepIn K (.ref f_signs) = true)
    (a_same : PySem.W.nsIn K mainGlobals "same" = some (some (.ref f_same)))
    (l_same : K.lookup f_same = some ⟨oc_same, od_same, .func (PySem.W.fnOf "same" "same" (defArgs s_same) (defBody s_same) (defScope s_same) .none kV_same dc_same pm_same an_same cd_same ct_same), sl_same⟩)
    (c_same : PySem.W.codeIn K cd_same "same" = true) (k_same : PySem.W.keepIn K (.ref f_same) = true)
    (a_parting : PySem.W.nsIn K mainGlobals "parting" = some (some (.ref f_parting)))
    (l_parting : K.lookup f_parting = some ⟨oc_parting, od_parting, .func (PySem.W.fnOf "parting" "parting" (defArgs s_parting) (defBody s_parting) (defScope s_parting) .none kV_parting dc_parting pm_parting an_parting cd_parting ct_parting), sl_parting⟩)
    (c_parting : PySem.W.codeIn K cd_parting "parting" = true) (k_parting : PySem.W.keepIn K (.ref f_parting) = true)
    (a_well : PySem.W.nsIn K mainGlobals "_law_well" = some (some (.ref f_well)))
    (l_well : K.lookup f_well = some ⟨oc_well, od_well, .func (PySem.W.fnOf "_law_well" "_law_well" (defArgs s_well) (defBody s_well) (defScope s_well) .none kV_well dc_well pm_well an_well cd_well ct_well), sl_well⟩)
    (c_well : PySem.W.codeIn K cd_well "_law_well" = true) (k_well : PySem.W.keepIn K (.ref f_well) = true)
    (a_draw : PySem.W.nsIn K mainGlobals "_law_draw" = some (some (.ref f_draw)))
    (l_draw : K.lookup f_draw = some ⟨oc_draw, od_draw, .func (PySem.W.fnOf "_law_draw" "_law_draw" (defArgs s_draw) (defBody s_draw) (defScope s_draw) .none kV_draw dc_draw pm_draw an_draw cd_draw ct_draw), sl_draw⟩)
    (c_draw : PySem.W.codeIn K cd_draw "_law_draw" = true) (k_draw : PySem.W.keepIn K (.ref f_draw) = true)
    (a_pick : PySem.W.nsIn K mainGlobals "_law_pick" = some (some (.ref f_pick)))
    (l_pick : K.lookup f_pick = some ⟨oc_pick, od_pick, .func (PySem.W.fnOf "_law_pick" "_law_pick" (defArgs s_pick) (defBody s_pick) (defScope s_pick) .none kV_pick dc_pick pm_pick an_pick cd_pick ct_pick), sl_pick⟩)
    (c_pick : PySem.W.codeIn K cd_pick "_law_pick" = true) (k_pick : PySem.W.keepIn K (.ref f_pick) = true)
    (a_bits : PySem.W.nsIn K mainGlobals "_law_bits" = some (some (.ref f_bits)))
    (l_bits : K.lookup f_bits = some ⟨oc_bits, od_bits, .func (PySem.W.fnOf "_law_bits" "_law_bits" (defArgs s_bits) (defBody s_bits) (defScope s_bits) .none kV_bits dc_bits pm_bits an_bits cd_bits ct_bits), sl_bits⟩)
    (c_bits : PySem.W.codeIn K cd_bits "_law_bits" = true) (k_bits : PySem.W.keepIn K (.ref f_bits) = true)
    (a_word : PySem.W.nsIn K mainGlobals "_law_word" = some (some (.ref f_word)))
    (l_word : K.lookup f_word = some ⟨oc_word, od_word, .func (PySem.W.fnOf "_law_word" "_law_word" (defArgs s_word) (defBody s_word) (defScope s_word) .none kV_word dc_word pm_word an_word cd_word ct_word), sl_word⟩)
    (c_word : PySem.W.codeIn K cd_word "_law_word" = true) (k_word : PySem.W.keepIn K (.ref f_word) = true)
    (a_table : PySem.W.nsIn K mainGlobals "_law_table" = some (some (.ref f_table)))
    (l_table : K.lookup f_table = some ⟨oc_table, od_table, .func (PySem.W.fnOf "_law_table" "_law_table" (defArgs s_table) (defBody s_table) (defScope s_table) .none kV_table dc_table pm_table an_table cd_table ct_table), sl_table⟩)
    (c_table : PySem.W.codeIn K cd_table "_law_table" = true) (k_table : PySem.W.keepIn K (.ref f_table) = true)
    (a_written : PySem.W.nsIn K mainGlobals "_law_written" = some (some (.ref f_written)))
    (l_written : K.lookup f_written = some ⟨oc_written, od_written, .func (PySem.W.fnOf "_law_written" "_law_written" (defArgs s_written) (defBody s_written) (defScope s_written) .none kV_written dc_written pm_written an_written cd_written ct_written), sl_written⟩)
    (c_written : PySem.W.codeIn K cd_written "_law_written" = true) (k_written : PySem.W.keepIn K (.ref f_written) = true)
    (a_row : PySem.W.nsIn K mainGlobals "_law_row" = some (some (.ref f_row)))
    (l_row : K.lookup f_row = some ⟨oc_row, od_row, .func (PySem.W.fnOf "_law_row" "_law_row" (defArgs s_row) (defBody s_row) (defScope s_row) .none kV_row dc_row pm_row an_row cd_row ct_row), sl_row⟩)
    (c_row : PySem.W.codeIn K cd_row "_law_row" = true) (k_row : PySem.W.keepIn K (.ref f_row) = true)
    (a_spoilt : PySem.W.nsIn K mainGlobals "_law_spoilt" = some (some (.ref f_spoilt)))
    (l_spoilt : K.lookup f_spoilt = some ⟨oc_spoilt, od_spoilt, .func (PySem.W.fnOf "_law_spoilt" "_law_spoilt" (defArgs s_spoilt) (defBody s_spoilt) (defScope s_spoilt) .none kV_spoilt dc_spoilt pm_spoilt an_spoilt cd_spoilt ct_spoilt), sl_spoilt⟩)
    (c_spoilt : PySem.W.codeIn K cd_spoilt "_law_spoilt" = true) (k_spoilt : PySem.W.keepIn K (.ref f_spoilt) = true)
    (a_words : PySem.W.nsIn K mainGlobals "_law_words" = some (some (.ref f_words)))
    (l_words : K.lookup f_words = some ⟨oc_words, od_words, .func (PySem.W.fnOf "_law_words" "_law_words" (defArgs s_words) (defBody s_words) (defScope s_words) .none kV_words dc_words pm_words an_words cd_words ct_words), sl_words⟩)
    (c_words : PySem.W.codeIn K cd_words "_law_words" = true) (k_words : PySem.W.keepIn K (.ref f_words) = true)
    (a_pair : PySem.W.nsIn K mainGlobals "_law_pair" = some (some (.ref f_pair)))
    (l_pair : K.lookup f_pair = some ⟨oc_pair, od_pair, .func (PySem.W.fnOf "_law_pair" "_law_pair" (defArgs s_pair) (defBody s_pair) (defScope s_pair) .none kV_pair dc_pair pm_pair an_pair cd_pair ct_pair), sl_pair⟩)
    (c_pair : PySem.W.codeIn K cd_pair "_law_pair" = true) (k_pair : PySem.W.keepIn K (.ref f_pair) = true)
    (a_parted : PySem.W.nsIn K mainGlobals "_law_parted" = some (some (.ref f_parted)))
    (l_parted : K.lookup f_parted = some ⟨oc_parted, od_parted, .func (PySem.W.fnOf "_law_parted" "_law_parted" (defArgs s_parted) (defBody s_parted) (defScope s_parted) .none kV_parted dc_parted pm_parted an_parted cd_parted ct_parted), sl_parted⟩)
    (c_parted : PySem.W.codeIn K cd_parted "_law_parted" = true) (k_parted : PySem.W.keepIn K (.ref f_parted) = true)
    (a_law : PySem.W.nsIn K mainGlobals "law" = some (some (.ref f_law)))
    (l_law : K.lookup f_law = some ⟨oc_law, od_law, .func (PySem.W.fnOf "law" "law" (defArgs s_law) (defBody s_law) (defScope s_law) .none kV_law dc_law pm_law an_law cd_law ct_law), sl_law⟩)
    (c_law : PySem.W.codeIn K cd_law "law" = true) (k_law : PySem.W.keepIn K (.ref f_law) = true)
    (z_abs : PySem.W.nsIn K mainGlobals "abs" = some none)
    (z_enumerate : PySem.W.nsIn K mainGlobals "enumerate" = some none)
    (z_int : PySem.W.nsIn K mainGlobals "int" = some none)
    (z_len : PySem.W.nsIn K mainGlobals "len" = some none)
    (z_max : PySem.W.nsIn K mainGlobals "max" = some none)
    (z_min : PySem.W.nsIn K mainGlobals "min" = some none)
    (z_range : PySem.W.nsIn K mainGlobals "range" = some none)
    (z_repr : PySem.W.nsIn K mainGlobals "repr" = some none)
    (z_str : PySem.W.nsIn K mainGlobals "str" = some none)
    (z_sum : PySem.W.nsIn K mainGlobals "sum" = some none)
    (z_zip : PySem.W.nsIn K mainGlobals "zip" = some none)
    : ∃ fd : FuncData, (∀ (s : Shared) (v : Value), BindsTo s fd ⟨[v], []⟩ [("_law_script", v)]) ∧ ∀ base : Heap, K.In base → base.Ns mainGlobals mg → FnG l.prog w K mg base 6 fa fd ["_law_script"] (spLaw K) := by
  have e := hfa.symm.trans (PySem.W.mg_of X G a_law)
  cases e
  let T : Tp K mg := {
    a_least := f_least, d_least := _, F_least := fun_mk (st := s_least) l_least c_least k_least, g_least := PySem.W.mg_of X G a_least,
    a_shortest := f_shortest, d_shortest := _, F_shortest := fun_mk (st := s_shortest) l_shortest c_shortest k_shortest, g_shortest := PySem.W.mg_of X G a_shortest,
    a_alike := f_alike, d_alike := _, F_alike := fun_mk (st := s_alike) l_alike c_alike k_alike, g_alike := PySem.W.mg_of X G a_alike,
    a_signs := f_signs, d_signs := _, F_signs := fun_mk (st := s_signs) l_signs c_signs k_signs, g_signs := PySem.W.mg_of X G a_signs,
    a_same := f_same, d_same := _, F_same := fun_mk (st := s_same) l_same c_same k_same, g_same := PySem.W.mg_of X G a_same,
    a_parting := f_parting, d_parting := _, F_parting := fun_mk (st := s_parting) l_parting c_parting k_parting, g_parting := PySem.W.mg_of X G a_parting,
    a_well := f_well, d_well := _, F_well := fun_mk (st := s_well) l_well c_well k_well, g_well := PySem.W.mg_of X G a_well,
    a_draw := f_draw, d_draw := _, F_draw := fun_mk (st := s_draw) l_draw c_draw k_draw, g_draw := PySem.W.mg_of X G a_draw,
    a_pick := f_pick, d_pick := _, F_pick := fun_mk (st := s_pick) l_pick c_pick k_pick, g_pick := PySem.W.mg_of X G a_pick,
    a_bits := f_bits, d_bits := _, F_bits := fun_mk (st := s_bits) l_bits c_bits k_bits, g_bits := PySem.W.mg_of X G a_bits,
    a_word := f_word, d_word := _, F_word := fun_mk (st := s_word) l_word c_word k_word, g_word := PySem.W.mg_of X G a_word,
    a_table := f_table, d_table := _, F_table := fun_mk (st := s_table) l_table c_table k_table, g_table := PySem.W.mg_of X G a_table,
    a_written := f_written, d_written := _, F_written := fun_mk (st := s_written) l_written c_written k_written, g_written := PySem.W.mg_of X G a_written,
    a_row := f_row, d_row := _, F_row := fun_mk (st := s_row) l_row c_row k_row, g_row := PySem.W.mg_of X G a_row,
    a_spoilt := f_spoilt, d_spoilt := _, F_spoilt := fun_mk (st := s_spoilt) l_spoilt c_spoilt k_spoilt, g_spoilt := PySem.W.mg_of X G a_spoilt,
    a_words := f_words, d_words := _, F_words := fun_mk (st := s_words) l_words c_words k_words, g_words := PySem.W.mg_of X G a_words,
    a_pair := f_pair, d_pair := _, F_pair := fun_mk (st := s_pair) l_pair c_pair k_pair, g_pair := PySem.W.mg_of X G a_pair,
    a_parted := f_parted, d_parted := _, F_parted := fun_mk (st := s_parted) l_parted c_parted k_parted, g_parted := PySem.W.mg_of X G a_parted,
    a_law := fa, d_law := _, F_law := fun_mk (st := s_law) l_law c_law k_law, g_law := PySem.W.mg_of X G a_law,
    n_abs := PySem.W.mg_none_of X G z_abs,
    n_enumerate := PySem.W.mg_none_of X G z_enumerate,
    n_int := PySem.W.mg_none_of X G z_int,
    n_len := PySem.W.mg_none_of X G z_len,
    n_max := PySem.W.mg_none_of X G z_max,
    n_min := PySem.W.mg_none_of X G z_min,
    n_range := PySem.W.mg_none_of X G z_range,
    n_repr := PySem.W.mg_none_of X G z_repr,
    n_str := PySem.W.mg_none_of X G z_str,
    n_sum := PySem.W.mg_none_of X G z_sum,
    n_zip := PySem.W.mg_none_of X G z_zip }
  exact ⟨T.d_law, fun s v => .of_eq rfl, fun base _ _ => ok_law T⟩
end G4
open PySem PySem.W PyProof.Rows
set_option maxHeartbeats 0 in
theorem PySem.Challenge.cw_leastmakers_k04_where_tables_part_holds : PySem.Challenge.rw_leastmakers_k04_where_tables_part.Holds := by
  w_on; o_law; k_head; (case hw => w_witness2)
  k_fill
  refine G1.walkG (l := PySem.Challenge.rw_leastmakers_k04_where_tables_part) (n := 63) (k := 6) (x := "_law_script") (sp := fun K => G4.spLaw K) rfl (by decide) rfl ⟨rfl, by decide, by decide⟩ (fun w h Y => PySem.W.kIn_of Y) ?F (fun K H a ns hl _ hS => ⟨a, ns, rfl, hS, hl, fun _ => rfl⟩)
  case F =>
    intro w mg fa h KX G hmg
    refine' G4.all_mk KX G hmg ?a_least ?l_least ?c_least ?k_least ?a_shortest ?l_shortest ?c_shortest ?k_shortest ?a_alike ?l_alike ?c_alike ?k_alike ?a_signs ?l_signs ?c_signs ?k_signs ?a_same ?l_same ?c_same ?k_same ?a_parting ?l_parting ?c_parting ?k_parting ?a_well ?l_well ?c_well ?k_well ?a_draw ?l_draw ?c_draw ?k_draw ?a_pick ?l_pick ?c_pick ?k_pick ?a_bits ?l_bits ?c_bits ?k_bits ?a_word ?l_word ?c_word ?k_word ?a_table ?l_table ?c_table ?k_table ?a_written ?l_written ?c_written ?k_written ?a_row ?l_row ?c_row ?k_row ?a_spoilt ?l_spoilt ?c_spoilt ?k_spoilt ?a_words ?l_words ?c_words ?k_words ?a_pair ?l_pair ?c_pair ?k_pair ?a_parted ?l_parted ?c_parted ?k_parted ?a_law ?l_law ?c_law ?k_law ?z_abs ?z_enumerate ?z_int ?z_len ?z_max ?z_min ?z_range ?z_repr ?z_str ?z_sum ?z_zip
    (case a_least => k_is); (case l_least => k_is); (case c_least => k_is); (case k_least => k_is); (case a_shortest => k_is); (case l_shortest => k_is)
    (case c_shortest => k_is); (case k_shortest => k_is); (case a_alike => k_is); (case l_alike => k_is); (case c_alike => k_is); (case k_alike => k_is)
    (case a_signs => k_is); (case l_signs => k_is); (case c_signs => k_is); (case k_signs => k_is); (case a_same => k_is); (case l_same => k_is)
    (case c_same => k_is); (case k_same => k_is); (case a_parting => k_is); (case l_parting => k_is); (case c_parting => k_is); (case k_parting => k_is)
    (case a_well => k_is); (case l_well => k_is); (case c_well => k_is); (case k_well => k_is); (case a_draw => k_is); (case l_draw => k_is)
    (case c_draw => k_is); (case k_draw => k_is); (case a_pick => k_is); (case l_pick => k_is); (case c_pick => k_is); (case k_pick => k_is)
    (case a_bits => k_is); (case l_bits => k_is); (case c_bits => k_is); (case k_bits => k_is); (case a_word => k_is); (case l_word => k_is)
    (case c_word => k_is); (case k_word => k_is); (case a_table => k_is); (case l_table => k_is); (case c_table => k_is); (case k_table => k_is)
    (case a_written => k_is); (case l_written => k_is); (case c_written => k_is); (case k_written => k_is); (case a_row => k_is); (case l_row => k_is)
    (case c_row => k_is); (case k_row => k_is); (case a_spoilt => k_is); (case l_spoilt => k_is); (case c_spoilt => k_is); (case k_spoilt => k_is)
    (case a_words => k_is); (case l_words => k_is); (case c_words => k_is); (case k_words => k_is); (case a_pair => k_is); (case l_pair => k_is)
    (case c_pair => k_is); (case k_pair => k_is); (case a_parted => k_is); (case l_parted => k_is); (case c_parted => k_is); (case k_parted => k_is)
    (case a_law => k_is); (case l_law => k_is); (case c_law => k_is); (case k_law => k_is); (case z_abs => k_is); (case z_enumerate => k_is)
    (case z_int => k_is); (case z_len => k_is); (case z_max => k_is); (case z_min => k_is); (case z_range => k_is); (case z_repr => k_is)
    (case z_str => k_is); (case z_sum => k_is); (case z_zip => k_is)
