import PyProof.Rows.All
import Wide.All
import OpenK.AllK
import Wide.FinOn
import HandS.ForMost
import HandS.ForExc
import HandS.Zip
import HandS.IsInst
import HandS.SortInts
import HandS.Lambda
import HandS.HeadHook4
import KE.GoesNew
import KE.GoesMore
import KE.GoesEnum
import KE.GoesZip
import HandS.NoneIn
import HandS.Style
import HandS.TupAny
import HandS.TupLe
import KE.KTupSum
import KE.KDictPairs
import HandS.More
import HandS.Defaults
import HandS.ExcInit
import HandS.ExcIs
import KE.KExcInit
import KE.KTryMore
import KE.KExcIs
import HandS.ExcField
import KE.DataFind
import HandS.Conv
import KE.KStateDown
import HandS.Head0
import HandS.Head1
import HandS.Head2
import HandS.HeadEnd
import HandS.HeadHook1
import HandS.HeadHook2
import HandS.ExcOwn
import PyProof.ReprRoads
import HandS.EndBits
import HandS.Star
import HandS.Deep
import HandS.Rev
import HandS.HeadHook3
import PyProof.ReprLen
import HandS.Small
import HandS.WordsDict
import KE.KDictZip
import KE.SortKeyHeap
import KE.DataMinKey
import HandS.Nested
import HandS.AnyAll
import HandS.Flow
import HandS.RevRange
import HandS.DictComp
import KE.SortData
import KE.KDictKeyed
import KE.KDictWalk
import PyProof.Rows.RuleIs
import KE.KDictDisplayH
import HandS.TupLen
import KE.KDictCopyH
import KE.KDictSum
import HandS.SetFor
import HandS.Strs
import PySem.Challenge.RW_passyards_k25_where_trains_can_go
set_option Elab.async false
set_option linter.all false
set_option maxRecDepth 100000
section
namespace Dl
open PySem PySem.Spec PyProof.Rows L2
/-- what is known of a value at hand: data that stands still; a list of one's own; one whose items are own, too; the box of draws; another name of slot i; nothing; a thing told by a word -/
inductive O where
  | fz (d : PyData)
  | own (ds : List PyData)
  | ol (os : List O)
  | box (p : Addr) (n : Nat)
  | al (i : Nat)
  | any
  | dct (xs : List (PyData × PyData))
  | ob (φ : Hp → Hp → V → List Addr → Prop)
/-- a dict's key as data -/
def keyD : Key → PyData
  | .inl i => .int i
  | .inr x => .str x
mutual
inductive Dq (K : PySem.W.Frag) (H : Hp) : V → PyData → Prop
  | non : Dq K H .non .none
  | bl (b : Bool) : Dq K H (.bl b) (.bool b)
  | int (i : Int) : Dq K H (.int i) (.int i)
  | str (x : Str) : Dq K H (.str x) (.str x)
  | lst {a : Addr} {vs : List V} {ds : List PyData} : H a = some (.lst vs) → DqAll K H vs ds → Dq K H (.ref a) (.list ds)
  | tup {a : Addr} {vs : List V} {ds : List PyData} : SqT K H a vs → DqAll K H vs ds → Dq K H (.ref a) (.tuple ds)
  | dct {a : Addr} {kvs : List (Key × V)} {xs : List (PyData × PyData)} : H a = some (.dK kvs) → DqKv K H kvs xs → Dq K H (.ref a) (.dict xs)
inductive DqAll (K : PySem.W.Frag) (H : Hp) : List V → List PyData → Prop
  | nil : DqAll K H [] []
  | cons {v : V} {vs : List V} {d : PyData} {ds : List PyData} : Dq K H v d → DqAll K H vs ds → DqAll K H (v :: vs) (d :: ds)
inductive DqKv (K : PySem.W.Frag) (H : Hp) : List (Key × V) → List (PyData × PyData) → Prop
  | nil : DqKv K H [] []
  | cons {k : Key} {v : V} {kvs : List (Key × V)} {d : PyData} {xs : List (PyData × PyData)} : Dq K H v d → DqKv K H kvs xs → DqKv K H ((k, v) :: kvs) ((keyD k, d) :: xs)
end
mutual
/-- no dict in it -/
def noDc : PyData → Bool
  | .dict _ => false
  | .list ds => noDcs ds
  | .tuple ds => noDcs ds
  | _ => true
def noDcs : List PyData → Bool
  | [] => true
  | d :: ds => noDc d && noDcs ds
end
mutual
theorem noDc_lay : ∀ d : PyData, d.canLay0 = true → noDc d = true
  | .none, _ => rfl
  | .bool _, _ => rfl
  | .int _, _ => rfl
  | .str _, _ => rfl
  | .list ds, h => noDcs_lay ds h
  | .tuple ds, h => noDcs_lay ds h
  | .dict _, h => by cases h
theorem noDcs_lay : ∀ ds : List PyData, PyData.canLayAll0 ds = true → noDcs ds = true
  | [], _ => rfl
  | d :: ds, h => by
    have h : (d.canLay0 && PyData.canLayAll0 ds) = true := h
    obtain ⟨h1, h2⟩ := Bool.and_eq_true_iff.mp h
    exact Bool.and_eq_true_iff.mpr ⟨noDc_lay d h1, noDcs_lay ds h2⟩
end
theorem noDc_sh {d : PyData} (h : SeqAt.shaped d = true) : noDc d = true := noDc_lay d (Bool.and_eq_true_iff.mp h).1
mutual
theorem dq_dp {K : PySem.W.Frag} {H : Hp} : ∀ (d : PyData) (v : V), noDc d = true → Dq K H v d → Dp K H v d
  | .none, _, _, h => by cases h; exact .non
  | .bool b, _, _, h => by cases h; exact .bl b
  | .int i, _, _, h => by cases h; exact .int i
  | .str x, _, _, h => by cases h; exact .str x
  | .list ds, _, q, h => by
    cases h with
    | lst hs ha => exact .lst (.of hs) (dqAll_dp ds _ q ha)
  | .tuple ds, _, q, h => by
    cases h with
    | tup hs ha => exact .tup hs (dqAll_dp ds _ q ha)
  | .dict _, _, q, h => by cases q
theorem dqAll_dp {K : PySem.W.Frag} {H : Hp} : ∀ (ds : List PyData) (vs : List V), noDcs ds = true → DqAll K H vs ds → DpAll K H vs ds
  | [], _, _, h => by cases h; exact .nil
  | d :: ds, _, q, h => by
    obtain ⟨q1, q2⟩ := Bool.and_eq_true_iff.mp (show (noDc d && noDcs ds) = true from q)
    cases h with
    | cons h1 h2 => exact .cons (dq_dp d _ q1 h1) (dqAll_dp ds _ q2 h2)
end
structure Stab (φ : Hp → Hp → V → List Addr → Prop) : Prop where
  keep : ∀ {G G' H H' : Hp} {v : V} {fp : List Addr}, φ G H v fp → Same G G' → (∀ a ∈ fp, H' a = H a) → φ G' H' v fp
  has : ∀ {G H : Hp} {v : V} {fp : List Addr}, φ G H v fp → ∀ a ∈ fp, ∃ o, H a = some o
mutual
def dn (K : PySem.W.Frag) (G H : Hp) : O → V → List Addr → Prop
  | .fz d, v, fp => Dq K G v d ∧ fp = []
  | .own ds, v, fp => ∃ p vs, v = .ref p ∧ fp = [p] ∧ H p = some (.lst vs) ∧ DqAll K G vs ds
  | .ol os, v, fp => ∃ p vs fq, v = .ref p ∧ fp = p :: fq ∧ H p = some (.lst vs) ∧ dnAll K G H os vs fq
  | .box p n, v, fp => ∃ (a b c : Int), v = .ref p ∧ fp = [p] ∧ H p = some (.lst [.int a, .int b, .int c]) ∧ 0 ≤ a ∧ 0 ≤ b ∧ b < 2 ^ 62 ∧ 0 ≤ c ∧ c ≤ (n : Int)
  | .al _, _, fp => fp = []
  | .any, _, fp => fp = []
  | .dct xs, v, fp => ∃ p kvs, v = .ref p ∧ fp = [p] ∧ H p = some (.dK kvs) ∧ DqKv K G kvs xs
  | .ob φ, v, fp => φ G H v fp ∧ Stab φ
def dnAll (K : PySem.W.Frag) (G H : Hp) : List O → List V → List Addr → Prop
  | [], vs, fp => vs = [] ∧ fp = []
  | o :: os, vs, fp => ∃ v vr f g, vs = v :: vr ∧ fp = f ++ g ∧ dn K G H o v f ∧ dnAll K G H os vr g
end
theorem same_tup {K : PySem.W.Frag} {H H' : Hp} {a : Addr} {xs : List V} (e : Same H H') (h : SqT K H a xs) : SqT K H' a xs := by
  rcases h with (h | ⟨o, h⟩) | h
  · exact Or.inl (Or.inl (e _ _ h))
  · exact Or.inl (Or.inr ⟨o, e _ _ h⟩)
  · exact Or.inr h
mutual
theorem dp_mono {K : PySem.W.Frag} {G G' : Hp} (e : Same G G') : ∀ (d : PyData) (v : V), Dq K G v d → Dq K G' v d
  | .none, _, h => by cases h; exact .non
  | .bool b, _, h => by cases h; exact .bl b
  | .int i, _, h => by cases h; exact .int i
  | .str x, _, h => by cases h; exact .str x
  | .list ds, _, h => by
    cases h with
    | lst hs ha => exact .lst (e _ _ hs) (dpAll_mono e ds _ ha)
  | .tuple ds, _, h => by
    cases h with
    | tup hs ha => exact .tup (same_tup e hs) (dpAll_mono e ds _ ha)
  | .dict xs, _, h => by
    cases h with
    | dct hs ha => exact .dct (e _ _ hs) (dpKv_mono e xs _ ha)
theorem dpAll_mono {K : PySem.W.Frag} {G G' : Hp} (e : Same G G') : ∀ (ds : List PyData) (vs : List V), DqAll K G vs ds → DqAll K G' vs ds
  | [], _, h => by cases h; exact .nil
  | d :: ds, _, h => by
    cases h with
    | cons h1 h2 => exact .cons (dp_mono e d _ h1) (dpAll_mono e ds _ h2)
theorem dpKv_mono {K : PySem.W.Frag} {G G' : Hp} (e : Same G G') : ∀ (xs : List (PyData × PyData)) (kvs : List (Key × V)), DqKv K G kvs xs → DqKv K G' kvs xs
  | [], _, h => by cases h; exact .nil
  | (_, d) :: xs, _, h => by
    cases h with
    | cons h1 h2 => exact .cons (dp_mono e d _ h1) (dpKv_mono e xs _ h2)
end
theorem dpAll_len {K : PySem.W.Frag} {G : Hp} : ∀ {ds : List PyData} {vs : List V}, DqAll K G vs ds → vs.length = ds.length
  | [], _, h => by cases h; rfl
  | d :: ds, _, h => by
    cases h with
    | cons h1 h2 => rw [List.length_cons, List.length_cons, dpAll_len h2]
theorem dpAll_get {K : PySem.W.Frag} {G : Hp} : ∀ {ds : List PyData} {vs : List V} {i : Nat} {d : PyData}, DqAll K G vs ds → ds[i]? = some d → ∃ v, vs[i]? = some v ∧ Dq K G v d
  | [], _, _, _, h, e => by simp at e
  | d :: ds, _, 0, _, h, e => by
    cases h with
    | cons h1 h2 => simp at e; subst e; exact ⟨_, rfl, h1⟩
  | d :: ds, _, i + 1, _, h, e => by
    cases h with
    | cons h1 h2 =>
      obtain ⟨v, e1, e2⟩ := dpAll_get (i := i) h2 (by simpa using e)
      exact ⟨v, by simpa using e1, e2⟩
theorem dpAll_app {K : PySem.W.Frag} {G : Hp} : ∀ {ds es : List PyData} {vs us : List V}, DqAll K G vs ds → DqAll K G us es → DqAll K G (vs ++ us) (ds ++ es)
  | [], _, _, _, h, k => by cases h; exact k
  | d :: ds, _, _, _, h, k => by
    cases h with
    | cons h1 h2 => exact .cons h1 (dpAll_app h2 k)
theorem dpAll_take {K : PySem.W.Frag} {G : Hp} : ∀ {ds : List PyData} {vs : List V} (n : Nat), DqAll K G vs ds → DqAll K G (vs.take n) (ds.take n)
  | _, _, 0, h => by simp; exact .nil
  | [], _, n + 1, h => by cases h; simp; exact .nil
  | d :: ds, _, n + 1, h => by
    cases h with
    | cons h1 h2 => simp; exact .cons h1 (dpAll_take n h2)
theorem dpAll_drop {K : PySem.W.Frag} {G : Hp} : ∀ {ds : List PyData} {vs : List V} (n : Nat), DqAll K G vs ds → DqAll K G (vs.drop n) (ds.drop n)
  | _, _, 0, h => by simpa using h
  | [], _, n + 1, h => by cases h; simp; exact .nil
  | d :: ds, _, n + 1, h => by
    cases h with
    | cons h1 h2 => simp; exact dpAll_drop n h2
theorem dpAll_set {K : PySem.W.Frag} {G : Hp} {v : V} {d : PyData} (hv : Dq K G v d) : ∀ {ds : List PyData} {vs : List V} (i : Nat), DqAll K G vs ds → DqAll K G (vs.set i v) (ds.set i d)
  | [], _, _, h => by cases h; simp; exact .nil
  | e :: ds, _, 0, h => by
    cases h with
    | cons h1 h2 => simp; exact .cons hv h2
  | e :: ds, _, i + 1, h => by
    cases h with
    | cons h1 h2 => simp; exact .cons h1 (dpAll_set hv i h2)
theorem dpAll_erase {K : PySem.W.Frag} {G : Hp} : ∀ {ds : List PyData} {vs : List V} (i : Nat), DqAll K G vs ds → DqAll K G (vs.eraseIdx i) (ds.eraseIdx i)
  | [], _, _, h => by cases h; simp; exact .nil
  | e :: ds, _, 0, h => by
    cases h with
    | cons h1 h2 => simpa using h2
  | e :: ds, _, i + 1, h => by
    cases h with
    | cons h1 h2 => simp; exact .cons h1 (dpAll_erase i h2)
theorem dpAll_ints_inv {K : PySem.W.Frag} {G : Hp} : ∀ {ns : List Int} {vs : List V}, DqAll K G vs (ns.map PyData.int) → vs = ns.map V.int
  | [], _, h => by cases h; rfl
  | n :: ns, _, h => by
    cases h with
    | cons h1 h2 => cases h1; rw [dpAll_ints_inv h2]; rfl
mutual
theorem dn_keep {K : PySem.W.Frag} {G G' H H' : Hp} (e : Same G G') : ∀ (o : O) (v : V) (fp : List Addr), dn K G H o v fp → (∀ a ∈ fp, H' a = H a) → dn K G' H' o v fp
  | .fz d, v, fp, h, k => by
    unfold dn at h ⊢
    exact ⟨dp_mono e d v h.1, h.2⟩
  | .own ds, v, fp, h, k => by
    unfold dn at h ⊢
    obtain ⟨p, vs, rfl, rfl, h1, h2⟩ := h
    exact ⟨p, vs, rfl, rfl, (k p (by simp)).trans h1, dpAll_mono e ds vs h2⟩
  | .ol os, v, fp, h, k => by
    unfold dn at h ⊢
    obtain ⟨p, vs, fq, rfl, rfl, h1, h2⟩ := h
    exact ⟨p, vs, fq, rfl, rfl, (k p (by simp)).trans h1, dnAll_keep e os vs fq h2 fun a ha => k a (by simp [ha])⟩
  | .box p n, v, fp, h, k => by
    unfold dn at h ⊢
    obtain ⟨a, b, c, rfl, rfl, h1, h2⟩ := h
    exact ⟨a, b, c, rfl, rfl, (k p (by simp)).trans h1, h2⟩
  | .al _, v, fp, h, k => by
    unfold dn at h ⊢
    exact h
  | .any, v, fp, h, k => by
    unfold dn at h ⊢
    exact h
  | .dct xs, v, fp, h, k => by
    unfold dn at h ⊢
    obtain ⟨p, kvs, rfl, rfl, h1, h2⟩ := h
    exact ⟨p, kvs, rfl, rfl, (k p (by simp)).trans h1, dpKv_mono e xs kvs h2⟩
  | .ob φ, v, fp, h, k => by
    unfold dn at h ⊢
    exact ⟨h.2.keep h.1 e k, h.2⟩
theorem dnAll_keep {K : PySem.W.Frag} {G G' H H' : Hp} (e : Same G G') : ∀ (os : List O) (vs : List V) (fp : List Addr), dnAll K G H os vs fp → (∀ a ∈ fp, H' a = H a) → dnAll K G' H' os vs fp
  | [], vs, fp, h, k => by
    unfold dnAll at h ⊢
    exact h
  | o :: os, vs, fp, h, k => by
    unfold dnAll at h ⊢
    obtain ⟨v, vr, f, g, rfl, rfl, h1, h2⟩ := h
    exact ⟨v, vr, f, g, rfl, rfl, dn_keep e o v f h1 fun a ha => k a (by simp [ha]), dnAll_keep e os vr g h2 fun a ha => k a (by simp [ha])⟩
end
mutual
theorem dn_has {K : PySem.W.Frag} {G H : Hp} : ∀ (o : O) (v : V) (fp : List Addr), dn K G H o v fp → ∀ a ∈ fp, ∃ u, H a = some u
  | .fz d, v, fp, h, a, ha => by
    unfold dn at h
    rw [h.2] at ha
    simp at ha
  | .own ds, v, fp, h, a, ha => by
    unfold dn at h
    obtain ⟨p, vs, rfl, rfl, h1, h2⟩ := h
    simp at ha
    subst ha
    exact ⟨_, h1⟩
  | .ol os, v, fp, h, a, ha => by
    unfold dn at h
    obtain ⟨p, vs, fq, rfl, rfl, h1, h2⟩ := h
    rcases List.mem_cons.mp ha with rfl | ha
    · exact ⟨_, h1⟩
    · exact dnAll_has os vs fq h2 a ha
  | .box p n, v, fp, h, a, ha => by
    unfold dn at h
    obtain ⟨x, b, c, rfl, rfl, h1, h2⟩ := h
    simp at ha
    subst ha
    exact ⟨_, h1⟩
  | .al _, v, fp, h, a, ha => by
    unfold dn at h
    rw [h] at ha
    simp at ha
  | .any, v, fp, h, a, ha => by
    unfold dn at h
    rw [h] at ha
    simp at ha
  | .dct xs, v, fp, h, a, ha => by
    unfold dn at h
    obtain ⟨p, kvs, rfl, rfl, h1, h2⟩ := h
    simp at ha
    subst ha
    exact ⟨_, h1⟩
  | .ob φ, v, fp, h, a, ha => by
    unfold dn at h
    exact h.2.has h.1 a ha
theorem dnAll_has {K : PySem.W.Frag} {G H : Hp} : ∀ (os : List O) (vs : List V) (fp : List Addr), dnAll K G H os vs fp → ∀ a ∈ fp, ∃ u, H a = some u
  | [], vs, fp, h, a, ha => by
    unfold dnAll at h
    rw [h.2] at ha
    simp at ha
  | o :: os, vs, fp, h, a, ha => by
    unfold dnAll at h
    obtain ⟨v, vr, f, g, rfl, rfl, h1, h2⟩ := h
    rcases List.mem_append.mp ha with ha | ha
    · exact dn_has o v f h1 a ha
    · exact dnAll_has os vr g h2 a ha
end
mutual
/-- the data that is seen -/
def see : O → Option PyData
  | .fz d => some d
  | .own ds => some (.list ds)
  | .ol os => (seeAll os).map .list
  | .dct xs => some (.dict xs)
  | _ => none
def seeAll : List O → Option (List PyData)
  | [] => some []
  | o :: os => match see o, seeAll os with
    | some d, some ds => some (d :: ds)
    | _, _ => none
end
mutual
theorem dn_see {K : PySem.W.Frag} {G H : Hp} (e : Same G H) : ∀ (o : O) (v : V) (fp : List Addr) (d : PyData), dn K G H o v fp → see o = some d → Dq K H v d
  | .fz d, v, fp, d', h, k => by
    unfold dn at h
    unfold see at k
    cases k
    exact dp_mono e d v h.1
  | .own ds, v, fp, d', h, k => by
    unfold dn at h
    unfold see at k
    cases k
    obtain ⟨p, vs, rfl, rfl, h1, h2⟩ := h
    exact .lst h1 (dpAll_mono e ds vs h2)
  | .ol os, v, fp, d', h, k => by
    unfold dn at h
    unfold see at k
    obtain ⟨p, vs, fq, rfl, rfl, h1, h2⟩ := h
    cases q : seeAll os with
    | none => rw [q] at k; cases k
    | some ds =>
      rw [q] at k
      cases k
      exact .lst h1 (dnAll_see e os vs fq ds h2 q)
  | .box _ n, v, fp, d', h, k => by unfold see at k; cases k
  | .al _, v, fp, d', h, k => by unfold see at k; cases k
  | .any, v, fp, d', h, k => by unfold see at k; cases k
  | .dct xs, v, fp, d', h, k => by
    unfold dn at h
    unfold see at k
    cases k
    obtain ⟨p, kvs, rfl, rfl, h1, h2⟩ := h
    exact .dct h1 (dpKv_mono e xs kvs h2)
  | .ob φ, v, fp, d', h, k => by unfold see at k; cases k
theorem dnAll_see {K : PySem.W.Frag} {G H : Hp} (e : Same G H) : ∀ (os : List O) (vs : List V) (fp : List Addr) (ds : List PyData), dnAll K G H os vs fp → seeAll os = some ds → DqAll K H vs ds
  | [], vs, fp, ds, h, k => by
    unfold dnAll at h
    unfold seeAll at k
    cases k
    rw [h.1]
    exact .nil
  | o :: os, vs, fp, ds, h, k => by
    unfold dnAll at h
    unfold seeAll at k
    obtain ⟨v, vr, f, g, rfl, rfl, h1, h2⟩ := h
    cases q1 : see o with
    | none => rw [q1] at k; cases k
    | some d =>
      cases q2 : seeAll os with
      | none => rw [q1, q2] at k; cases k
      | some dr =>
        rw [q1, q2] at k
        cases k
        exact .cons (dn_see e o v f d h1 q1) (dnAll_see e os vr g dr h2 q2)
end
theorem same_upd {G : Hp} {p : Addr} {o : HO} (h : G p = none) : Same G (upd G p o) := fun b x e => by
  rw [upd_ne (ne_of_none e h)]
  exact e
theorem upd_same_of {G H : Hp} {p : Addr} {o : HO} (e : Same G H) (h : H p = some o) : Same (upd G p o) H := fun b x k => by
  by_cases q : b = p
  · subst q
    rw [upd_same] at k
    rw [← k]
    exact h
  · rw [upd_ne q] at k
    exact e b x k
mutual
theorem dn_freeze {K : PySem.W.Frag} {H : Hp} : ∀ (o : O) (G : Hp) (v : V) (fp : List Addr) (d : PyData), dn K G H o v fp → see o = some d → Same G H → (∀ a ∈ fp, G a = none) → fp.Nodup →
    ∃ G', Same G G' ∧ Same G' H ∧ Dq K G' v d ∧ ∀ a, a ∉ fp → G' a = G a
  | .fz d, G, v, fp, d', h, k, e, hn, nd => by
    unfold dn at h
    unfold see at k
    cases k
    exact ⟨G, Same.refl G, e, h.1, fun a _ => rfl⟩
  | .own ds, G, v, fp, d', h, k, e, hn, nd => by
    unfold dn at h
    unfold see at k
    cases k
    obtain ⟨p, vs, rfl, rfl, h1, h2⟩ := h
    have s1 : Same G (upd G p (.lst vs)) := same_upd (hn p (by simp))
    exact ⟨upd G p (.lst vs), s1, upd_same_of e h1, .lst upd_same (dpAll_mono s1 ds vs h2), fun a ha => upd_ne (by simpa using ha)⟩
  | .ol os, G, v, fp, d', h, k, e, hn, nd => by
    unfold dn at h
    unfold see at k
    obtain ⟨p, vs, fq, rfl, rfl, h1, h2⟩ := h
    cases q : seeAll os with
    | none => rw [q] at k; cases k
    | some ds =>
      rw [q] at k
      cases k
      obtain ⟨G1, a1, a2, a3, a4⟩ := dnAll_freeze os G vs fq ds h2 q e (fun a ha => hn a (by simp [ha])) (List.nodup_cons.mp nd).2
      have hp : G1 p = none := (a4 p (List.nodup_cons.mp nd).1).trans (hn p (by simp))
      have s1 : Same G1 (upd G1 p (.lst vs)) := same_upd hp
      refine ⟨upd G1 p (.lst vs), a1.trans s1, upd_same_of a2 h1, .lst upd_same (dpAll_mono s1 ds vs a3), fun a ha => ?_⟩
      have hap : a ≠ p := fun z => ha (by simp [z])
      rw [upd_ne hap]
      exact a4 a fun z => ha (by simp [z])
  | .box _ n, G, v, fp, d', h, k, e, hn, nd => by unfold see at k; cases k
  | .al _, G, v, fp, d', h, k, e, hn, nd => by unfold see at k; cases k
  | .any, G, v, fp, d', h, k, e, hn, nd => by unfold see at k; cases k
  | .dct xs, G, v, fp, d', h, k, e, hn, nd => by
    unfold dn at h
    unfold see at k
    cases k
    obtain ⟨p, kvs, rfl, rfl, h1, h2⟩ := h
    have s1 : Same G (upd G p (.dK kvs)) := same_upd (hn p (by simp))
    exact ⟨upd G p (.dK kvs), s1, upd_same_of e h1, .dct upd_same (dpKv_mono s1 xs kvs h2), fun a ha => upd_ne (by simpa using ha)⟩
  | .ob φ, G, v, fp, d', h, k, e, hn, nd => by unfold see at k; cases k
theorem dnAll_freeze {K : PySem.W.Frag} {H : Hp} : ∀ (os : List O) (G : Hp) (vs : List V) (fp : List Addr) (ds : List PyData), dnAll K G H os vs fp → seeAll os = some ds → Same G H → (∀ a ∈ fp, G a = none) → fp.Nodup →
    ∃ G', Same G G' ∧ Same G' H ∧ DqAll K G' vs ds ∧ ∀ a, a ∉ fp → G' a = G a
  | [], G, vs, fp, ds, h, k, e, hn, nd => by
    unfold dnAll at h
    unfold seeAll at k
    cases k
    rw [h.1]
    exact ⟨G, Same.refl G, e, .nil, fun a _ => rfl⟩
  | o :: os, G, vs, fp, ds, h, k, e, hn, nd => by
    unfold dnAll at h
    unfold seeAll at k
    obtain ⟨v, vr, f, g, rfl, rfl, h1, h2⟩ := h
    cases q1 : see o with
    | none => rw [q1] at k; cases k
    | some d =>
      cases q2 : seeAll os with
      | none => rw [q1, q2] at k; cases k
      | some dr =>
        rw [q1, q2] at k
        cases k
        obtain ⟨nf, ng, dj⟩ := List.nodup_append.mp nd
        obtain ⟨G1, a1, a2, a3, a4⟩ := dn_freeze o G v f d h1 q1 e (fun a ha => hn a (by simp [ha])) nf
        have h2' : dnAll K G1 H os vr g := dnAll_keep a1 os vr g h2 fun a _ => rfl
        have hn' : ∀ a ∈ g, G1 a = none := fun a ha => (a4 a fun z => dj a z a ha rfl).trans (hn a (by simp [ha]))
        obtain ⟨G2, b1, b2, b3, b4⟩ := dnAll_freeze os G1 vr g dr h2' q2 a2 hn' ng
        refine ⟨G2, a1.trans b1, b2, .cons (dp_mono b1 d v a3) b3, fun a ha => ?_⟩
        rw [b4 a fun z => ha (by simp [z]), a4 a fun z => ha (by simp [z])]
end
end Dl
end
section
namespace Dl
open PySem PySem.Spec PyProof.Rows L2
abbrev Ent := List (V × O)
/-- what is at hand: its values with what is known of each; G the part of the heap that stands still -/
def R0 (K : PySem.W.Frag) (G0 H : Hp) (L : Ent) : Prop :=
  ∃ G fp, Same G0 G ∧ Same G H ∧ dnAll K G H (L.map (·.2)) (L.map (·.1)) fp ∧ fp.Nodup ∧ ∀ a ∈ fp, G a = none
section
variable {K : PySem.W.Frag} {G0 G H H' : Hp} {L L' : Ent} {v : V} {o : O} {d : PyData}
theorem dnAll_perm : ∀ {L L' : Ent}, L.Perm L' → ∀ fp, dnAll K G H (L.map (·.2)) (L.map (·.1)) fp → ∃ fp', dnAll K G H (L'.map (·.2)) (L'.map (·.1)) fp' ∧ fp.Perm fp' := by
  intro L L' p
  induction p with
  | nil => exact fun fp h => ⟨fp, h, .refl _⟩
  | cons x p ih =>
    intro fp h
    simp only [List.map_cons] at h ⊢
    unfold dnAll at h
    obtain ⟨v, vr, f, g, e, rfl, h1, h2⟩ := h
    cases e
    obtain ⟨g', h3, q⟩ := ih g h2
    refine ⟨f ++ g', ?_, q.append_left f⟩
    unfold dnAll
    exact ⟨_, _, f, g', rfl, rfl, h1, h3⟩
  | swap x y l =>
    intro fp h
    simp only [List.map_cons] at h ⊢
    unfold dnAll at h
    obtain ⟨v, vr, f, g, e, rfl, h1, h2⟩ := h
    cases e
    unfold dnAll at h2
    obtain ⟨v, vr, f', g', e, rfl, h3, h4⟩ := h2
    cases e
    refine ⟨f' ++ (f ++ g'), ?_, ?_⟩
    · unfold dnAll
      refine ⟨_, _, f', f ++ g', rfl, rfl, h3, ?_⟩
      unfold dnAll
      exact ⟨_, _, f, g', rfl, rfl, h1, h4⟩
    · rw [← List.append_assoc, ← List.append_assoc]
      exact (List.perm_append_comm).append_right g'
  | trans p q ih1 ih2 =>
    intro fp h
    obtain ⟨f1, h1, q1⟩ := ih1 fp h
    obtain ⟨f2, h2, q2⟩ := ih2 f1 h1
    exact ⟨f2, h2, q1.trans q2⟩
theorem R0.perm (r : R0 K G0 H L) (p : L.Perm L') : R0 K G0 H L' := by
  obtain ⟨G, fp, s0, s1, h, nd, hn⟩ := r
  obtain ⟨fp', h', q⟩ := dnAll_perm p fp h
  exact ⟨G, fp', s0, s1, h', q.nodup_iff.mp nd, fun a ha => hn a (q.mem_iff.mpr ha)⟩
/-- the first one apart -/
theorem R0.cons_iff : R0 K G0 H ((v, o) :: L) ↔ ∃ G f g, Same G0 G ∧ Same G H ∧ dn K G H o v f ∧ dnAll K G H (L.map (·.2)) (L.map (·.1)) g ∧ (f ++ g).Nodup ∧ ∀ a ∈ f ++ g, G a = none := by
  constructor
  · rintro ⟨G, fp, s0, s1, h, nd, hn⟩
    simp only [List.map_cons] at h
    unfold dnAll at h
    obtain ⟨_, _, f, g, e, rfl, h1, h2⟩ := h
    cases e
    exact ⟨G, f, g, s0, s1, h1, h2, nd, hn⟩
  · rintro ⟨G, f, g, s0, s1, h1, h2, nd, hn⟩
    refine ⟨G, f ++ g, s0, s1, ?_, nd, hn⟩
    simp only [List.map_cons]
    unfold dnAll
    exact ⟨_, _, f, g, rfl, rfl, h1, h2⟩
theorem R0.tail (r : R0 K G0 H ((v, o) :: L)) : R0 K G0 H L := by
  obtain ⟨G, f, g, s0, s1, h1, h2, nd, hn⟩ := R0.cons_iff.mp r
  exact ⟨G, g, s0, s1, h2, (List.nodup_append.mp nd).2.1, fun a ha => hn a (List.mem_append_right _ ha)⟩
theorem R0.grow (r : R0 K G0 H L) (e : Same H H') : R0 K G0 H' L := by
  obtain ⟨G, fp, s0, s1, h, nd, hn⟩ := r
  refine ⟨G, fp, s0, s1.trans e, dnAll_keep (Same.refl G) _ _ fp h fun a ha => ?_, nd, hn⟩
  obtain ⟨u, q⟩ := dnAll_has _ _ fp h a ha
  rw [q]
  exact e a u q
theorem R0.seen (r : R0 K G0 H ((v, o) :: L)) (h : see o = some d) : Dq K H v d := by
  obtain ⟨G, f, g, s0, s1, h1, h2, nd, hn⟩ := R0.cons_iff.mp r
  exact dn_see s1 o v f d h1 h
theorem R0.copy (r : R0 K G0 H ((v, .fz d) :: L)) : R0 K G0 H ((v, .fz d) :: (v, .fz d) :: L) := by
  obtain ⟨G, f, g, s0, s1, h1, h2, nd, hn⟩ := R0.cons_iff.mp r
  refine R0.cons_iff.mpr ⟨G, f, f ++ g, s0, s1, h1, ?_, ?_, ?_⟩
  · simp only [List.map_cons]
    unfold dnAll
    exact ⟨_, _, f, g, rfl, rfl, h1, h2⟩
  · unfold dn at h1
    rw [h1.2] at nd ⊢
    exact nd
  · unfold dn at h1
    rw [h1.2] at hn ⊢
    exact hn
/-- a frozen one is added that is known in every standing part -/
theorem R0.add (r : R0 K G0 H L) (h : ∀ G, Dq K G v d) : R0 K G0 H ((v, .fz d) :: L) := by
  obtain ⟨G, g, s0, s1, h2, nd, hn⟩ := r
  refine R0.cons_iff.mpr ⟨G, [], g, s0, s1, ?_, h2, nd, hn⟩
  unfold dn
  exact ⟨h G, rfl⟩
theorem R0.addAl {i : Nat} (r : R0 K G0 H L) : R0 K G0 H ((v, .al i) :: L) := by
  obtain ⟨G, g, s0, s1, h2, nd, hn⟩ := r
  refine R0.cons_iff.mpr ⟨G, [], g, s0, s1, ?_, h2, nd, hn⟩
  unfold dn
  rfl
/-- what was one's own stands still -/
theorem R0.freeze (r : R0 K G0 H ((v, o) :: L)) (h : see o = some d) : R0 K G0 H ((v, .fz d) :: L) := by
  obtain ⟨G, f, g, s0, s1, h1, h2, nd, hn⟩ := R0.cons_iff.mp r
  obtain ⟨nf, ng, dj⟩ := List.nodup_append.mp nd
  obtain ⟨G1, a1, a2, a3, a4⟩ := dn_freeze o G v f d h1 h s1 (fun a ha => hn a (List.mem_append_left _ ha)) nf
  refine R0.cons_iff.mpr ⟨G1, [], g, s0.trans a1, a2, ?_, dnAll_keep a1 _ _ g h2 fun a _ => rfl, ng, fun a ha => ?_⟩
  · unfold dn
    exact ⟨a3, rfl⟩
  · have ha : a ∈ g := ha
    exact (a4 a fun z => dj a z a ha rfl).trans (hn a (List.mem_append_right _ ha))
/-- several frozen ones apart -/
def fzs : List V → List PyData → Ent
  | v :: vs, d :: ds => (v, .fz d) :: fzs vs ds
  | _, _ => []
theorem R0.fzs_iff : ∀ {vs : List V} {ds : List PyData}, vs.length = ds.length → (R0 K G0 H (fzs vs ds ++ L) ↔ ∃ G g, Same G0 G ∧ Same G H ∧ DqAll K G vs ds ∧ dnAll K G H (L.map (·.2)) (L.map (·.1)) g ∧ g.Nodup ∧ ∀ a ∈ g, G a = none)
  | [], [], _ => by
    show R0 K G0 H L ↔ _
    exact ⟨fun ⟨G, g, s0, s1, h, nd, hn⟩ => ⟨G, g, s0, s1, .nil, h, nd, hn⟩, fun ⟨G, g, s0, s1, _, h, nd, hn⟩ => ⟨G, g, s0, s1, h, nd, hn⟩⟩
  | v :: vs, d :: ds, e => by
    have el : vs.length = ds.length := Nat.succ.inj e
    show R0 K G0 H ((v, .fz d) :: (fzs vs ds ++ L)) ↔ _
    constructor
    · intro r
      obtain ⟨G, f, g, s0, s1, h1, h2, nd, hn⟩ := R0.cons_iff.mp r
      unfold dn at h1
      obtain ⟨h1, rfl⟩ := h1
      exact go h1 el s0 s1 h2 nd hn
    · rintro ⟨G, g, s0, s1, h, hL, nd, hn⟩
      cases h with
      | cons h1 h2 =>
        refine R0.cons_iff.mpr ⟨G, [], g, s0, s1, ?_, back h2 hL, nd, hn⟩
        unfold dn
        exact ⟨h1, rfl⟩
  | [], _ :: _, e => by cases e
  | _ :: _, [], e => by cases e
where
  go {v : V} {d : PyData} {vs : List V} {ds : List PyData} {G : Hp} {g : List Addr} (h1 : Dq K G v d) (el : vs.length = ds.length) (s0 : Same G0 G) (s1 : Same G H) (h2 : dnAll K G H ((fzs vs ds ++ L).map (·.2)) ((fzs vs ds ++ L).map (·.1)) g) (nd : ([] ++ g).Nodup) (hn : ∀ a ∈ [] ++ g, G a = none) :
      ∃ G g, Same G0 G ∧ Same G H ∧ DqAll K G (v :: vs) (d :: ds) ∧ dnAll K G H (L.map (·.2)) (L.map (·.1)) g ∧ g.Nodup ∧ ∀ a ∈ g, G a = none := by
    obtain ⟨h3, h4⟩ := peel el h2
    exact ⟨G, g, s0, s1, .cons h1 h3, h4, nd, hn⟩
  peel {G : Hp} {g : List Addr} : ∀ {vs : List V} {ds : List PyData}, vs.length = ds.length → dnAll K G H ((fzs vs ds ++ L).map (·.2)) ((fzs vs ds ++ L).map (·.1)) g → DqAll K G vs ds ∧ dnAll K G H (L.map (·.2)) (L.map (·.1)) g
    | [], [], _, h => ⟨.nil, h⟩
    | v :: vs, d :: ds, e, h => by
      simp only [fzs, List.cons_append, List.map_cons] at h
      unfold dnAll at h
      obtain ⟨_, _, f, g', q, rfl, h1, h2⟩ := h
      cases q
      unfold dn at h1
      obtain ⟨h1, rfl⟩ := h1
      obtain ⟨h3, h4⟩ := peel (Nat.succ.inj e) h2
      exact ⟨.cons h1 h3, h4⟩
    | [], _ :: _, e, _ => by cases e
    | _ :: _, [], e, _ => by cases e
  back {G : Hp} {g : List Addr} : ∀ {vs : List V} {ds : List PyData}, DqAll K G vs ds → dnAll K G H (L.map (·.2)) (L.map (·.1)) g → dnAll K G H ((fzs vs ds ++ L).map (·.2)) ((fzs vs ds ++ L).map (·.1)) g
    | [], [], _, h => h
    | v :: vs, d :: ds, k, h => by
      cases k with
      | cons k1 k2 =>
        simp only [fzs, List.cons_append, List.map_cons]
        unfold dnAll
        refine ⟨_, _, [], g, rfl, rfl, ?_, back k2 h⟩
        unfold dn
        exact ⟨k1, rfl⟩
    | [], _ :: _, k, _ => by cases k
    | _ :: _, [], k, _ => by cases k
/-- a new tuple of frozen ones -/
theorem R0.tuple {vs : List V} {ds : List PyData} {p : Addr} (r : R0 K G0 H (fzs vs ds ++ L)) (el : vs.length = ds.length) (hp : H p = none) : R0 K G0 (upd H p (.tup vs)) ((.ref p, .fz (.tuple ds)) :: L) := by
  obtain ⟨G, g, s0, s1, a, b, nd, hn⟩ := (R0.fzs_iff el).mp r
  have gp : G p = none := s1.free hp
  have s2 : Same G (upd G p (.tup vs)) := same_upd gp
  have s3 : Same (upd G p (.tup vs)) (upd H p (.tup vs)) := fun b x k => by
    by_cases q : b = p
    · subst q
      rw [upd_same] at k ⊢
      exact k
    · rw [upd_ne q] at k ⊢
      exact s1 b x k
  have hpg : ∀ a ∈ g, a ≠ p := fun a ha z => by
    obtain ⟨u, q⟩ := dnAll_has _ _ g b a ha
    rw [z, hp] at q
    cases q
  refine R0.cons_iff.mpr ⟨upd G p (.tup vs), [], g, s0.trans s2, s3, ?_, dnAll_keep s2 _ _ g b fun a ha => upd_ne (hpg a ha), nd, fun a ha => ?_⟩
  · unfold dn
    exact ⟨.tup (.of upd_same) (dpAll_mono s2 ds vs a), rfl⟩
  · rw [upd_ne (hpg a ha)]
    exact hn a ha
/-- a new list of frozen ones -/
theorem R0.list {vs : List V} {ds : List PyData} {p : Addr} (r : R0 K G0 H (fzs vs ds ++ L)) (el : vs.length = ds.length) (hp : H p = none) : R0 K G0 (upd H p (.lst vs)) ((.ref p, .own ds) :: L) := by
  obtain ⟨G, g, s0, s1, a, b, nd, hn⟩ := (R0.fzs_iff el).mp r
  have gp : G p = none := s1.free hp
  have hpg : ∀ a ∈ g, a ≠ p := fun a ha z => by
    obtain ⟨u, q⟩ := dnAll_has _ _ g b a ha
    rw [z, hp] at q
    cases q
  refine R0.cons_iff.mpr ⟨G, [p], g, s0, s1.trans (same_upd hp), ?_, dnAll_keep (Same.refl G) _ _ g b fun a ha => upd_ne (hpg a ha), ?_, fun a ha => ?_⟩
  · unfold dn
    exact ⟨p, vs, rfl, rfl, upd_same, a⟩
  · exact List.nodup_cons.mpr ⟨fun z => hpg p z rfl, nd⟩
  · rcases List.mem_cons.mp ha with rfl | ha
    · exact gp
    · exact hn a ha
/-- a new list of what is one's own -/
theorem R0.listO {M : Ent} {p : Addr} (r : R0 K G0 H (M ++ L)) (hp : H p = none) : R0 K G0 (upd H p (.lst (M.map (·.1)))) ((.ref p, .ol (M.map (·.2))) :: L) := by
  obtain ⟨G, fp, s0, s1, h, nd, hn⟩ := r
  rw [List.map_append, List.map_append] at h
  obtain ⟨f, g, rfl, h1, h2⟩ := split (by rw [List.length_map, List.length_map]) h
  have gp : G p = none := s1.free hp
  have hpf : ∀ a ∈ f ++ g, a ≠ p := fun a ha z => by
    rcases List.mem_append.mp ha with k | k
    · obtain ⟨u, q⟩ := dnAll_has _ _ f h1 a k
      rw [z, hp] at q
      cases q
    · obtain ⟨u, q⟩ := dnAll_has _ _ g h2 a k
      rw [z, hp] at q
      cases q
  refine R0.cons_iff.mpr ⟨G, p :: f, g, s0, s1.trans (same_upd hp), ?_, dnAll_keep (Same.refl G) _ _ g h2 fun a ha => upd_ne (hpf a (List.mem_append_right _ ha)), ?_, fun a ha => ?_⟩
  · unfold dn
    exact ⟨p, _, f, rfl, rfl, upd_same, dnAll_keep (Same.refl G) _ _ f h1 fun a ha => upd_ne (hpf a (List.mem_append_left _ ha))⟩
  · exact List.nodup_cons.mpr ⟨fun z => hpf p z rfl, nd⟩
  · rcases List.mem_cons.mp ha with rfl | ha
    · exact gp
    · exact hn a ha
where
  split {K : PySem.W.Frag} {G H : Hp} : ∀ {os qs : List O} {vs us : List V} {fp : List Addr}, os.length = vs.length → dnAll K G H (os ++ qs) (vs ++ us) fp → ∃ f g, fp = f ++ g ∧ dnAll K G H os vs f ∧ dnAll K G H qs us g
    | [], qs, [], us, fp, _, h => ⟨[], fp, rfl, by unfold dnAll; exact ⟨rfl, rfl⟩, h⟩
    | o :: os, qs, v :: vs, us, fp, e, h => by
      simp only [List.cons_append] at h
      unfold dnAll at h
      obtain ⟨_, _, f, g, q, rfl, h1, h2⟩ := h
      cases q
      obtain ⟨f1, g1, rfl, h3, h4⟩ := split (Nat.succ.inj e) h2
      refine ⟨f ++ f1, g1, (List.append_assoc _ _ _).symm, ?_, h4⟩
      unfold dnAll
      exact ⟨_, _, f, f1, rfl, rfl, h1, h3⟩
    | [], qs, _ :: _, us, fp, e, h => by cases e
    | _ :: _, qs, [], us, fp, e, h => by cases e
end
/-- a table and its code objects, of the name q -/
def TabO (q : Str) : Hp → Hp → V → List Addr → Prop := fun _ H v fp => ∃ (P : Addr) (ps : Array Value) (cs : List Addr), v = .ref P ∧ fp = P :: cs ∧ H P = some (.tbl ps) ∧ TriplesOk ps.toList ∧
  (∀ (pos : Pos) (cv : Value), codeAmong pos ps.toList = some cv → ∃ c ∈ cs, cv = .ref c) ∧ ∀ c ∈ cs, H c = some (LamX.CodeO c q)
theorem tabO_stab {q : Str} : Stab (TabO q) where
  keep := fun {G G' H H' v fp} ⟨P, ps, cs, e1, e2, e3, e4, e5, e6⟩ _ k => by
    subst e2
    exact ⟨P, ps, cs, e1, rfl, (k P List.mem_cons_self).trans e3, e4, e5, fun c hc => (k c (List.mem_cons_of_mem _ hc)).trans (e6 c hc)⟩
  has := fun {G H v fp} ⟨P, ps, cs, e1, e2, e3, e4, e5, e6⟩ a ha => by
    subst e2
    rcases List.mem_cons.mp ha with rfl | ha
    · exact ⟨_, e3⟩
    · exact ⟨_, e6 a ha⟩
abbrev lamDefs : List (Str × Str) := [("arranged", "arranged.<locals>.<lambda>"), ("row_to", "row_to.<locals>.<lambda>")]
/-- the def x of the program has a code object with a table that K does not know -/
def tabHere (K : PySem.W.Frag) (x : Str) : Bool := PySem.W.codeHdIn K (He.cT K (x, none)).1 (He.cT K (x, none)).2 && (K.lookup (He.cT K (x, none)).2).isNone
def tabL (K : PySem.W.Frag) : List (Str × Str) := lamDefs.filter fun p => tabHere K p.1
/-- the tables as things of one's own -/
@[irreducible] def tabE (K : PySem.W.Frag) : Ent := (tabL K).map fun p => (.ref (He.cT K (p.1, none)).2, .ob (TabO p.2))
/-- what is at hand, the tables behind it -/
def R (K : PySem.W.Frag) (G0 H : Hp) (L : Ent) : Prop := R0 K G0 H (L ++ tabE K)
section
variable {K : PySem.W.Frag} {G0 G H H' : Hp} {L L' : Ent} {v : V} {o : O} {d : PyData}
abbrev tO (K : PySem.W.Frag) (L : Ent) : List O := (L ++ tabE K).map (·.2)
abbrev tV (K : PySem.W.Frag) (L : Ent) : List V := (L ++ tabE K).map (·.1)
theorem R.perm (r : R K G0 H L) (p : L.Perm L') : R K G0 H L' := R0.perm r (p.append_right _)
theorem R.cons_iff : R K G0 H ((v, o) :: L) ↔ ∃ G f g, Same G0 G ∧ Same G H ∧ dn K G H o v f ∧ dnAll K G H (tO K L) (tV K L) g ∧ (f ++ g).Nodup ∧ ∀ a ∈ f ++ g, G a = none := R0.cons_iff (L := L ++ tabE K)
theorem R.tail (r : R K G0 H ((v, o) :: L)) : R K G0 H L := R0.tail (L := L ++ tabE K) r
theorem R.grow (r : R K G0 H L) (e : Same H H') : R K G0 H' L := R0.grow (L := L ++ tabE K) r e
theorem R.seen (r : R K G0 H ((v, o) :: L)) (h : see o = some d) : Dq K H v d := R0.seen (L := L ++ tabE K) r h
theorem R.copy (r : R K G0 H ((v, .fz d) :: L)) : R K G0 H ((v, .fz d) :: (v, .fz d) :: L) := R0.copy (L := L ++ tabE K) r
theorem R.add (r : R K G0 H L) (h : ∀ G, Dq K G v d) : R K G0 H ((v, .fz d) :: L) := R0.add (L := L ++ tabE K) r h
theorem R.addAl {i : Nat} (r : R K G0 H L) : R K G0 H ((v, .al i) :: L) := R0.addAl (L := L ++ tabE K) r
theorem R.freeze (r : R K G0 H ((v, o) :: L)) (h : see o = some d) : R K G0 H ((v, .fz d) :: L) := R0.freeze (L := L ++ tabE K) r h
theorem R.eq_app {M : Ent} : R K G0 H (M ++ L) = R0 K G0 H (M ++ (L ++ tabE K)) := by
  unfold R
  rw [List.append_assoc]
theorem R.fzs_iff {vs : List V} {ds : List PyData} (e : vs.length = ds.length) : R K G0 H (fzs vs ds ++ L) ↔ ∃ G g, Same G0 G ∧ Same G H ∧ DqAll K G vs ds ∧ dnAll K G H (tO K L) (tV K L) g ∧ g.Nodup ∧ ∀ a ∈ g, G a = none := by
  rw [R.eq_app]
  exact R0.fzs_iff e
theorem R.fzs_iff.peel {G : Hp} {g : List Addr} {vs : List V} {ds : List PyData} (e : vs.length = ds.length) (h : dnAll K G H (tO K (fzs vs ds ++ L)) (tV K (fzs vs ds ++ L)) g) : DqAll K G vs ds ∧ dnAll K G H (tO K L) (tV K L) g := by
  unfold tO tV at h
  rw [List.append_assoc] at h
  exact R0.fzs_iff.peel e h
theorem R.fzs_iff.back {G : Hp} {g : List Addr} {vs : List V} {ds : List PyData} (a : DqAll K G vs ds) (h : dnAll K G H (tO K L) (tV K L) g) : dnAll K G H (tO K (fzs vs ds ++ L)) (tV K (fzs vs ds ++ L)) g := by
  unfold tO tV
  rw [List.append_assoc]
  exact R0.fzs_iff.back a h
theorem R.tuple {vs : List V} {ds : List PyData} {p : Addr} (r : R K G0 H (fzs vs ds ++ L)) (el : vs.length = ds.length) (hp : H p = none) : R K G0 (upd H p (.tup vs)) ((.ref p, .fz (.tuple ds)) :: L) := by
  rw [R.eq_app] at r
  exact R0.tuple r el hp
theorem R.list {vs : List V} {ds : List PyData} {p : Addr} (r : R K G0 H (fzs vs ds ++ L)) (el : vs.length = ds.length) (hp : H p = none) : R K G0 (upd H p (.lst vs)) ((.ref p, .own ds) :: L) := by
  rw [R.eq_app] at r
  exact R0.list r el hp
theorem R.listO {M : Ent} {p : Addr} (r : R K G0 H (M ++ L)) (hp : H p = none) : R K G0 (upd H p (.lst (M.map (·.1)))) ((.ref p, .ol (M.map (·.2))) :: L) := by
  rw [R.eq_app] at r
  exact R0.listO r hp
/-- H off the addresses fT -/
def off (H : Hp) (fT : List Addr) : Hp := fun b => if b ∈ fT then none else H b
theorem off_same {fT : List Addr} : Same (off H fT) H := fun b o e => by
  unfold off at e
  split at e
  · cases e
  · exact e
theorem off_at {fT : List Addr} {b : Addr} (h : b ∉ fT) : off H fT b = H b := if_neg h
/-- what a table's footprint may hold -/
def tabby : HO → Prop
  | .tbl _ => True
  | .ext _ => True
  | _ => False
theorem tabs_off {G H : Hp} {L : List (Str × Str)} {vs : List V} {fT : List Addr} : dnAll K G H (L.map fun p => O.ob (TabO p.2)) vs fT → ∀ a ∈ fT, ∃ o, H a = some o ∧ tabby o := by
  induction L generalizing vs fT with
  | nil =>
    intro h a ha
    have h : dnAll K G H [] vs fT := h
    unfold dnAll at h
    rw [h.2] at ha
    simp at ha
  | cons p L ih =>
    intro h a ha
    have h : dnAll K G H (O.ob (TabO p.2) :: L.map fun p => O.ob (TabO p.2)) vs fT := h
    unfold dnAll at h
    obtain ⟨v, vr, f, g, rfl, rfl, h1, h2⟩ := h
    rcases List.mem_append.mp ha with ha | ha
    · unfold dn at h1
      obtain ⟨⟨P, ps, cs, e1, e2, e3, e4, e5, e6⟩, _⟩ := h1
      subst e2
      rcases List.mem_cons.mp ha with rfl | ha
      · exact ⟨_, e3, trivial⟩
      · exact ⟨_, e6 a ha, trivial⟩
    · exact ih h2 a ha
theorem tabs_any {G G' H : Hp} {L : List (Str × Str)} {vs : List V} {fT : List Addr} : dnAll K G H (L.map fun p => O.ob (TabO p.2)) vs fT → dnAll K G' H (L.map fun p => O.ob (TabO p.2)) vs fT := by
  induction L generalizing vs fT with
  | nil => exact fun h => h
  | cons p L ih =>
    intro h
    have h : dnAll K G H (O.ob (TabO p.2) :: L.map fun p => O.ob (TabO p.2)) vs fT := h
    unfold dnAll at h
    obtain ⟨v, vr, f, g, rfl, rfl, h1, h2⟩ := h
    show dnAll K G' H (O.ob (TabO p.2) :: L.map fun p => O.ob (TabO p.2)) _ _
    unfold dnAll
    refine ⟨v, vr, f, g, rfl, rfl, ?_, ih h2⟩
    unfold dn at h1 ⊢
    exact h1
theorem tabE_O : (tabE K).map (·.2) = (tabL K).map fun p => O.ob (TabO p.2) := by
  unfold tabE
  rw [List.map_map]
  rfl
mutual
theorem dp_off {fT : List Addr} (hT : ∀ a ∈ fT, ∃ o, H a = some o ∧ tabby o) : ∀ (d : PyData) (v : V), Dq K H v d → Dq K (off H fT) v d
  | .none, _, h => by cases h; exact .non
  | .bool b, _, h => by cases h; exact .bl b
  | .int i, _, h => by cases h; exact .int i
  | .str x, _, h => by cases h; exact .str x
  | .list ds, _, h => by
    cases h with
    | @lst a vs _ hs ha => exact .lst ((off_at (no hT hs (fun z => z))).trans hs) (dpAll_off hT ds _ ha)
  | .tuple ds, _, h => by
    cases h with
    | @tup a vs _ hs ha =>
      refine .tup ?_ (dpAll_off hT ds _ ha)
      rcases hs with (h | ⟨o, h⟩) | h
      · exact Or.inl (Or.inl ((off_at (no hT h (fun z => z))).trans h))
      · exact Or.inl (Or.inr ⟨o, (off_at (no hT h (fun z => z))).trans h⟩)
      · exact Or.inr h
  | .dict xs, _, h => by
    cases h with
    | @dct a kvs _ hs ha => exact .dct ((off_at (no hT hs (fun z => z))).trans hs) (dpKv_off hT xs _ ha)
theorem dpAll_off {fT : List Addr} (hT : ∀ a ∈ fT, ∃ o, H a = some o ∧ tabby o) : ∀ (ds : List PyData) (vs : List V), DqAll K H vs ds → DqAll K (off H fT) vs ds
  | [], _, h => by cases h; exact .nil
  | d :: ds, _, h => by
    cases h with
    | cons h1 h2 => exact .cons (dp_off hT d _ h1) (dpAll_off hT ds _ h2)
theorem dpKv_off {fT : List Addr} (hT : ∀ a ∈ fT, ∃ o, H a = some o ∧ tabby o) : ∀ (xs : List (PyData × PyData)) (kvs : List (Key × V)), DqKv K H kvs xs → DqKv K (off H fT) kvs xs
  | [], _, h => by cases h; exact .nil
  | (_, d) :: xs, _, h => by
    cases h with
    | cons h1 h2 => exact .cons (dp_off hT d _ h1) (dpKv_off hT xs _ h2)
theorem no {fT : List Addr} (hT : ∀ a ∈ fT, ∃ o, H a = some o ∧ tabby o) {a : Addr} {o : HO} (h : H a = some o) (n : ¬ tabby o) : a ∉ fT := fun z => by
  obtain ⟨u, e, t⟩ := hT a z
  rw [h] at e
  cases e
  exact n t
end
/-- seen things stand still while a def looks at them: F is what stays one's own -/
theorem R.look {vs : List V} {ds : List PyData} (r : R K G0 H L) (hd : DqAll K H vs ds) : ∃ G1, R K G1 H (fzs vs ds) ∧ ∀ (H' : Hp) (M : Ent), R K G1 H' M → R K G0 H' L ∧ ∀ a, (∃ o, H a = some o ∧ ¬ tabby o) → H' a = H a := by
  obtain ⟨G, fp, s0, s1, h, nd, hn⟩ := r
  rw [List.map_append, List.map_append] at h
  obtain ⟨fL, fT, rfl, h1, h2⟩ := R0.listO.split (by rw [List.length_map, List.length_map]) h
  rw [tabE_O] at h2
  have hT := tabs_off h2
  obtain ⟨n1, n2, n3⟩ := List.nodup_append.mp nd
  have sG : Same G (off H fT) := fun b o e => by
    have nb : b ∉ fT := fun z => by
      have q := hn b (List.mem_append_right _ z)
      rw [e] at q
      cases q
    exact (off_at nb).trans (s1 b o e)
  have hl := dpAll_len hd
  refine ⟨off H fT, ?_, fun H' M r' => ?_⟩
  · have e : R K (off H fT) H (fzs vs ds) = R0 K (off H fT) H (fzs vs ds ++ tabE K) := rfl
    rw [e]
    refine (R0.fzs_iff hl).mpr ⟨off H fT, fT, Same.refl _, off_same, dpAll_off hT ds vs hd, ?_, n2, fun a ha => if_pos ha⟩
    rw [tabE_O]
    exact tabs_any h2
  · obtain ⟨G', fp', s0', s1', h', nd', hn'⟩ := r'
    rw [List.map_append, List.map_append] at h'
    obtain ⟨fM, fU, rfl, h3, h4⟩ := R0.listO.split (by rw [List.length_map, List.length_map]) h'
    rw [tabE_O] at h4
    have sH : Same (off H fT) H' := s0'.trans s1'
    have keep : ∀ a ∈ fL, H' a = H a := fun a ha => by
      obtain ⟨u, q⟩ := dnAll_has _ _ fL h1 a ha
      have na : a ∉ fT := fun z => n3 a ha a z rfl
      rw [q]
      exact sH a u ((off_at na).trans q)
    refine ⟨⟨G, fL ++ fU, s0, sG.trans sH, ?_, ?_, fun a ha => ?_⟩, fun a ⟨o, e, n⟩ => ?_⟩
    · rw [List.map_append, List.map_append]
      refine app (dnAll_keep (Same.refl G) _ _ fL h1 keep) ?_
      rw [tabE_O]
      exact tabs_any h4
    · refine List.nodup_append.mpr ⟨n1, (List.nodup_append.mp nd').2.1, fun a ha b hb z => ?_⟩
      subst z
      obtain ⟨u, q⟩ := dnAll_has _ _ fL h1 a ha
      have na : a ∉ fT := fun z => n3 a ha a z rfl
      have q2 := s0' a u ((off_at na).trans q)
      rw [hn' a (List.mem_append_right _ hb)] at q2
      cases q2
    · rcases List.mem_append.mp ha with ha | ha
      · exact hn a (List.mem_append_left _ ha)
      · have q := hn' a (List.mem_append_right _ ha)
        cases e : G a with
        | none => rfl
        | some u =>
          rw [(sG.trans s0') a u e] at q
          cases q
    · rw [e]
      exact sH a o ((off_at (no (K := K) hT e n)).trans e)
where
  app {K : PySem.W.Frag} {G H : Hp} : ∀ {os ps : List O} {xs zs : List V} {f g : List Addr}, dnAll K G H os xs f → dnAll K G H ps zs g → dnAll K G H (os ++ ps) (xs ++ zs) (f ++ g)
    | [], ps, xs, zs, f, g, h, k => by
      unfold dnAll at h
      obtain ⟨rfl, rfl⟩ := h
      exact k
    | o :: os, ps, xs, zs, f, g, h, k => by
      unfold dnAll at h
      obtain ⟨v, vr, f1, g1, rfl, rfl, h1, h2⟩ := h
      have q := app h2 k
      show dnAll K G H (o :: (os ++ ps)) (v :: (vr ++ zs)) (f1 ++ g1 ++ g)
      unfold dnAll
      exact ⟨v, vr ++ zs, f1, g1 ++ g, rfl, by rw [List.append_assoc], h1, q⟩
end
end Dl
end
section
namespace Dl
open PySem PySem.Spec PyProof.Rows L2
section
variable {K : PySem.W.Frag} {G0 G H H' : Hp} {L L' : Ent} {v : V} {o : O} {d : PyData}
/-- the one's own at p is written anew -/
theorem R.put {p : Addr} {o' : O} {ob : HO} {g : List Addr} (s0 : Same G0 G) (s1 : Same G H) (h2 : dnAll K G H (tO K L) (tV K L) g) (nd : ([p] ++ g).Nodup) (hn : ∀ a ∈ [p] ++ g, G a = none)
    (new : dn K G (upd H p ob) o' (.ref p) [p]) : R K G0 (upd H p ob) ((.ref p, o') :: L) := by
  have gp : G p = none := hn p (by simp)
  have hpg : ∀ a ∈ g, a ≠ p := fun a ha z => (List.nodup_cons.mp nd).1 (z ▸ ha)
  refine R.cons_iff.mpr ⟨G, [p], g, s0, fun b x k => ?_, new, dnAll_keep (Same.refl G) _ _ g h2 fun a ha => upd_ne (hpg a ha), nd, hn⟩
  rw [upd_ne (ne_of_none k gp)]
  exact s1 b x k
theorem R.write {ys : List V} {es ds : List PyData} (r : R K G0 H ((v, .own ds) :: (fzs ys es ++ L))) (el : ys.length = es.length) :
    ∃ p vs, v = .ref p ∧ H p = some (.lst vs) ∧ vs.length = ds.length ∧ ∀ (vs' us : List V) (ds' cs : List PyData), (∀ G, DqAll K G vs ds → DqAll K G ys es → DqAll K G vs' ds' ∧ DqAll K G us cs) →
      us.length = cs.length → R K G0 (upd H p (.lst vs')) ((v, .own ds') :: (fzs us cs ++ (fzs ys es ++ L))) := by
  obtain ⟨G, f, g, s0, s1, h1, h2, nd, hn⟩ := R.cons_iff.mp r
  unfold dn at h1
  obtain ⟨p, vs, rfl, rfl, e1, e2⟩ := h1
  refine ⟨p, vs, rfl, e1, dpAll_len e2, fun vs' us ds' cs k kl => ?_⟩
  obtain ⟨k1, k2⟩ := R.fzs_iff.peel el h2
  obtain ⟨j1, j2⟩ := k G e2 k1
  refine R.put s0 s1 (R.fzs_iff.back j2 h2) nd hn ?_
  unfold dn
  exact ⟨p, vs', rfl, rfl, upd_same, j1⟩
theorem R.draw {p : Addr} {n : Nat} (r : R K G0 H ((v, .box p n) :: L)) :
    v = .ref p ∧ ∃ a b c : Int, H p = some (.lst [.int a, .int b, .int c]) ∧ 0 ≤ a ∧ 0 ≤ b ∧ b < 2 ^ 62 ∧ 0 ≤ c ∧ c ≤ (n : Int) ∧
      ∀ (a' b' c' : Int) (m : Nat), 0 ≤ a' → 0 ≤ b' → b' < 2 ^ 62 → 0 ≤ c' → c' ≤ (m : Int) → R K G0 (upd H p (.lst [.int a', .int b', .int c'])) ((v, .box p m) :: L) := by
  obtain ⟨G, f, g, s0, s1, h1, h2, nd, hn⟩ := R.cons_iff.mp r
  unfold dn at h1
  obtain ⟨a, b, c, rfl, rfl, e1, e2, e3, e4, e5, e6⟩ := h1
  refine ⟨rfl, a, b, c, e1, e2, e3, e4, e5, e6, fun a' b' c' m k1 k2 k3 k4 k5 => ?_⟩
  refine R.put s0 s1 h2 nd hn ?_
  unfold dn
  exact ⟨a', b', c', rfl, rfl, upd_same, k1, k2, k3, k4, k5⟩
/-- a frozen list or tuple: its items -/
theorem R.items {ds : List PyData} (r : R K G0 H ((v, .fz (.list ds)) :: L)) : ∃ a vs, v = .ref a ∧ H a = some (.lst vs) ∧ vs.length = ds.length ∧ R K G0 H (fzs vs ds ++ ((v, .fz (.list ds)) :: L)) := by
  obtain ⟨G, f, g, s0, s1, h1, h2, nd, hn⟩ := R.cons_iff.mp r
  unfold dn at h1
  obtain ⟨h1, rfl⟩ := h1
  cases h1 with
  | @lst a vs _ hs ha =>
    refine ⟨a, vs, rfl, s1 _ _ hs, dpAll_len ha, (R.fzs_iff (dpAll_len ha)).mpr ⟨G, g, s0, s1, ha, ?_, nd, hn⟩⟩
    simp only [tO, tV, List.cons_append, List.map_cons]
    unfold dnAll
    refine ⟨_, _, [], g, rfl, rfl, ?_, h2⟩
    unfold dn
    exact ⟨.lst hs ha, rfl⟩
theorem R.itemsT {ds : List PyData} (r : R K G0 H ((v, .fz (.tuple ds)) :: L)) : ∃ a vs, v = .ref a ∧ SqT K H a vs ∧ vs.length = ds.length ∧ R K G0 H (fzs vs ds ++ ((v, .fz (.tuple ds)) :: L)) := by
  obtain ⟨G, f, g, s0, s1, h1, h2, nd, hn⟩ := R.cons_iff.mp r
  unfold dn at h1
  obtain ⟨h1, rfl⟩ := h1
  cases h1 with
  | @tup a vs _ hs ha =>
    refine ⟨a, vs, rfl, same_tup s1 hs, dpAll_len ha, (R.fzs_iff (dpAll_len ha)).mpr ⟨G, g, s0, s1, ha, ?_, nd, hn⟩⟩
    simp only [tO, tV, List.cons_append, List.map_cons]
    unfold dnAll
    refine ⟨_, _, [], g, rfl, rfl, ?_, h2⟩
    unfold dn
    exact ⟨.tup hs ha, rfl⟩
/-- a list of one's own: its items, frozen each -/
theorem R.itemsO {ds : List PyData} (r : R K G0 H ((v, .own ds) :: L)) : ∃ a vs, v = .ref a ∧ H a = some (.lst vs) ∧ vs.length = ds.length ∧ R K G0 H (fzs vs ds ++ ((v, .own ds) :: L)) := by
  obtain ⟨G, f, g, s0, s1, h1, h2, nd, hn⟩ := R.cons_iff.mp r
  have h1' := h1
  unfold dn at h1
  obtain ⟨p, vs, rfl, rfl, e1, e2⟩ := h1
  refine ⟨p, vs, rfl, e1, dpAll_len e2, (R.fzs_iff (dpAll_len e2)).mpr ⟨G, [p] ++ g, s0, s1, e2, ?_, nd, hn⟩⟩
  simp only [tO, tV, List.cons_append, List.map_cons]
  unfold dnAll
  exact ⟨_, _, [p], g, rfl, rfl, h1', h2⟩
theorem R.int {i : Int} (r : R K G0 H ((v, .fz (.int i)) :: L)) : v = .int i := by
  have h := r.seen (o := .fz (.int i)) rfl
  cases h
  rfl
theorem R.bl {b : Bool} (r : R K G0 H ((v, .fz (.bool b)) :: L)) : v = .bl b := by
  have h := r.seen (o := .fz (.bool b)) rfl
  cases h
  rfl
theorem R.str {x : Str} (r : R K G0 H ((v, .fz (.str x)) :: L)) : v = .str x := by
  have h := r.seen (o := .fz (.str x)) rfl
  cases h
  rfl
theorem R.non (r : R K G0 H ((v, .fz .none) :: L)) : v = .non := by
  have h := r.seen (o := .fz .none) rfl
  cases h
  rfl
end
abbrev Sl := L2.St
abbrev Gm := List (Option O)
def ents : Sl → Gm → Ent
  | some v :: σ, some o :: Γ => (v, o) :: ents σ Γ
  | _ :: σ, _ :: Γ => ents σ Γ
  | _, _ => []
def Fit : Sl → Gm → Prop
  | _ :: σ, none :: Γ => Fit σ Γ
  | some _ :: σ, some _ :: Γ => Fit σ Γ
  | none :: _, some _ :: _ => False
  | [], [] => True
  | _, _ => False
def put : Gm → Nat → Option O → Gm
  | [], _, _ => []
  | _ :: Γ, 0, o => o :: Γ
  | x :: Γ, i + 1, o => x :: put Γ i o
def get : Gm → Nat → Option O
  | [], _ => none
  | x :: _, 0 => x
  | _ :: Γ, i + 1 => get Γ i
theorem Fit.len : ∀ {σ : Sl} {Γ : Gm}, Fit σ Γ → σ.length = Γ.length
  | [], [], _ => rfl
  | none :: σ, none :: Γ, h => congrArg (· + 1) (Fit.len (σ := σ) (Γ := Γ) h)
  | some _ :: σ, none :: Γ, h => congrArg (· + 1) (Fit.len (σ := σ) (Γ := Γ) h)
  | some _ :: σ, some _ :: Γ, h => congrArg (· + 1) (Fit.len (σ := σ) (Γ := Γ) h)
  | none :: _, some _ :: _, h => h.elim
  | [], _ :: _, h => h.elim
  | none :: _, [], h => h.elim
  | some _ :: _, [], h => h.elim
theorem put_len : ∀ (Γ : Gm) (i : Nat) (o : Option O), (put Γ i o).length = Γ.length
  | [], _, _ => rfl
  | _ :: Γ, 0, o => rfl
  | x :: Γ, i + 1, o => congrArg (· + 1) (put_len Γ i o)
theorem put_put : ∀ (Γ : Gm) (i : Nat) (o u : Option O), put (put Γ i o) i u = put Γ i u
  | [], _, _, _ => rfl
  | _ :: Γ, 0, _, _ => rfl
  | x :: Γ, i + 1, o, u => congrArg (x :: ·) (put_put Γ i o u)
/-- slot i apart -/
theorem ents_out : ∀ {σ : Sl} {Γ : Gm} {i : Nat} {o : O}, Fit σ Γ → get Γ i = some o → ∃ v, σ[i]? = some (some v) ∧ (ents σ Γ).Perm ((v, o) :: ents σ (put Γ i none)) ∧ Fit σ (put Γ i none)
  | [], [], _, _, _, h => by simp [get] at h
  | none :: σ, none :: Γ, 0, o, _, h => by simp [get] at h
  | some w :: σ, none :: Γ, 0, o, _, h => by simp [get] at h
  | none :: σ, none :: Γ, i + 1, o, f, h => by
    obtain ⟨v, h1, h2, h3⟩ := ents_out (σ := σ) (Γ := Γ) (i := i) f h
    exact ⟨v, by simpa using h1, h2, h3⟩
  | some w :: σ, none :: Γ, i + 1, o, f, h => by
    obtain ⟨v, h1, h2, h3⟩ := ents_out (σ := σ) (Γ := Γ) (i := i) f h
    exact ⟨v, by simpa using h1, h2, h3⟩
  | some w :: σ, some u :: Γ, 0, o, f, h => by
    have e : u = o := Option.some.inj h
    subst e
    exact ⟨w, rfl, .refl _, f⟩
  | some w :: σ, some u :: Γ, i + 1, o, f, h => by
    obtain ⟨v, h1, h2, h3⟩ := ents_out (σ := σ) (Γ := Γ) (i := i) f h
    exact ⟨v, by simpa using h1, (h2.cons (w, u)).trans (.swap _ _ _), h3⟩
  | none :: _, some _ :: _, _, _, f, _ => f.elim
  | [], _ :: _, _, _, f, _ => f.elim
  | none :: _, [], _, _, f, _ => f.elim
  | some _ :: _, [], _, _, f, _ => f.elim
/-- slot i is stored -/
theorem ents_in {v : V} {o : O} : ∀ {σ : Sl} {Γ : Gm} {i : Nat}, Fit σ Γ → i < Γ.length → (ents (σ.set i (some v)) (put Γ i (some o))).Perm ((v, o) :: ents σ (put Γ i none)) ∧ Fit (σ.set i (some v)) (put Γ i (some o))
  | [], [], _, _, h => by simp at h
  | x :: σ, none :: Γ, 0, f, _ => by
    have f : Fit σ Γ := by cases x <;> exact f
    refine ⟨?_, f⟩
    cases x <;> exact .refl _
  | some w :: σ, some u :: Γ, 0, f, _ => ⟨.refl _, f⟩
  | none :: σ, none :: Γ, i + 1, f, h => by
    obtain ⟨h2, h3⟩ := ents_in (v := v) (o := o) (σ := σ) (Γ := Γ) (i := i) f (by simpa using h)
    exact ⟨h2, h3⟩
  | some w :: σ, none :: Γ, i + 1, f, h => by
    obtain ⟨h2, h3⟩ := ents_in (v := v) (o := o) (σ := σ) (Γ := Γ) (i := i) f (by simpa using h)
    exact ⟨h2, h3⟩
  | some w :: σ, some u :: Γ, i + 1, f, h => by
    obtain ⟨h2, h3⟩ := ents_in (v := v) (o := o) (σ := σ) (Γ := Γ) (i := i) f (by simpa using h)
    exact ⟨(h2.cons (w, u)).trans (.swap _ _ _), h3⟩
  | none :: _, some _ :: _, _, f, _ => f.elim
  | [], _ :: _, _, f, _ => f.elim
  | none :: _, [], _, f, _ => f.elim
  | some _ :: _, [], _, f, _ => f.elim
/-- slot i is told anew, its value as it was -/
theorem ents_back {v : V} {o : O} : ∀ {σ : Sl} {Γ : Gm} {i : Nat}, Fit σ Γ → i < Γ.length → σ[i]? = some (some v) → (ents σ (put Γ i (some o))).Perm ((v, o) :: ents σ (put Γ i none)) ∧ Fit σ (put Γ i (some o)) := fun {σ Γ i} f h e => by
  have q := ents_in (v := v) (o := o) f h
  have es : σ.set i (some v) = σ := by
    obtain ⟨hl, hx⟩ := List.getElem?_eq_some_iff.mp e
    rw [← hx, List.set_getElem_self]
  rw [es] at q
  exact q
theorem get_lt : ∀ {Γ : Gm} {i : Nat} {o : O}, get Γ i = some o → i < Γ.length
  | [], _, _, h => by simp [get] at h
  | _ :: Γ, 0, _, _ => by simp
  | _ :: Γ, i + 1, _, h => by have := get_lt (Γ := Γ) (i := i) h; simp; omega
def AlOk (σ : Sl) (T : Ent) : Prop := ∀ v i, (v, O.al i) ∈ T → σ[i]? = some (some v)
/-- the state of a body: temporaries T, the names, the frame F around -/
structure Rel (K : PySem.W.Frag) (G0 : Hp) (T F : Ent) (σ : Sl) (H : Hp) (Γ : Gm) : Prop where
  fit : Fit σ Γ
  al : AlOk σ T
  r : R K G0 H (T ++ (ents σ Γ ++ F))
section
variable {K : PySem.W.Frag} {G0 G H H' : Hp} {T F : Ent} {σ : Sl} {Γ : Gm} {v : V} {o : O} {d : PyData} {i : Nat}
theorem AlOk.tail (h : AlOk σ ((v, o) :: T)) : AlOk σ T := fun w i m => h w i (List.mem_cons_of_mem _ m)
theorem AlOk.cons (h : AlOk σ T) (n : ∀ i, o ≠ .al i) : AlOk σ ((v, o) :: T) := fun w i m => by
  rcases List.mem_cons.mp m with e | m
  · cases e
    exact absurd rfl (n i)
  · exact h w i m
/-- slot i apart, in front -/
theorem Rel.out (r : Rel K G0 T F σ H Γ) (h : get Γ i = some o) : ∃ v, σ[i]? = some (some v) ∧ R K G0 H ((v, o) :: (T ++ (ents σ (put Γ i none) ++ F))) ∧ Fit σ (put Γ i none) := by
  obtain ⟨v, h1, h2, h3⟩ := ents_out r.fit h
  refine ⟨v, h1, r.r.perm ?_, h3⟩
  have q : (ents σ Γ ++ F).Perm ((v, o) :: (ents σ (put Γ i none) ++ F)) := h2.append_right F
  exact (q.append_left T).trans List.perm_middle
/-- .. and back, told anew -/
theorem Rel.back (f : Fit σ (put Γ i none)) (a : AlOk σ T) (hl : i < Γ.length) (e : σ[i]? = some (some v)) (r : R K G0 H ((v, o) :: (T ++ (ents σ (put Γ i none) ++ F)))) : Rel K G0 T F σ H (put Γ i (some o)) := by
  have q := ents_back (v := v) (o := o) f (i := i) (by rw [put_len]; exact hl) e
  rw [put_put, put_put] at q
  refine ⟨q.2, a, r.perm (List.perm_middle.symm.trans (List.Perm.append_left T ?_))⟩
  exact (q.1.append_right F).symm
/-- the data that is seen at hand -/
def vw (Γ : Gm) : O → Option PyData
  | .al i => match get Γ i with
    | some o => see o
    | none => none
  | o => see o
theorem Rel.view (r : Rel K G0 ((v, o) :: T) F σ H Γ) (h : vw Γ o = some d) : Dq K H v d := by
  cases o with
  | al i =>
    have h : (match get Γ i with | some o => see o | none => none) = some d := h
    cases q : get Γ i with
    | none => rw [q] at h; cases h
    | some u =>
      rw [q] at h
      obtain ⟨w, h1, h2, _⟩ := r.out q
      have e : σ[i]? = some (some v) := r.al v i List.mem_cons_self
      rw [h1] at e
      cases e
      exact h2.seen h
  | fz _ => exact r.r.seen h
  | own _ => exact r.r.seen h
  | ol _ => exact r.r.seen h
  | box _ _ => exact r.r.seen h
  | any => exact r.r.seen h
  | dct _ => exact r.r.seen h
  | ob _ => exact r.r.seen h
/-- the value at hand as data that stands still from now on -/
def esc (Γ : Gm) (o : O) (k : PyData → Gm → Prop) : Prop := match o with
  | .al i => match get Γ i with
    | some u => match see u with
      | some d => k d (put Γ i (some (.fz d)))
      | none => False
    | none => False
  | .fz d => k d Γ
  | .own ds => k (.list ds) Γ
  | o => match see o with
    | some d => k d Γ
    | none => False
theorem Rel.fz' (r : Rel K G0 ((v, o) :: T) F σ H Γ) (h : see o = some d) : Rel K G0 ((v, .fz d) :: T) F σ H Γ :=
  ⟨r.fit, r.al.tail.cons (fun _ z => nomatch z), r.r.freeze h⟩
theorem Rel.escape {k : PyData → Gm → Prop} (r : Rel K G0 ((v, o) :: T) F σ H Γ) (h : esc Γ o k) : ∃ d Γ', k d Γ' ∧ Rel K G0 ((v, .fz d) :: T) F σ H Γ' := by
  have gen : (match see o with | some d => k d Γ | none => False) → ∃ d Γ', k d Γ' ∧ Rel K G0 ((v, .fz d) :: T) F σ H Γ' := fun h => by
    cases q : see o with
    | none => rw [q] at h; exact h.elim
    | some d => rw [q] at h; exact ⟨d, Γ, h, r.fz' q⟩
  cases o with
  | al i =>
    have h : (match get Γ i with | some u => (match see u with | some d => k d (put Γ i (some (.fz d))) | none => False) | none => False) := h
    cases q : get Γ i with
    | none => rw [q] at h; exact h.elim
    | some u =>
      rw [q] at h
      have h : (match see u with | some d => k d (put Γ i (some (.fz d))) | none => False) := h
      cases q2 : see u with
      | none => rw [q2] at h; exact h.elim
      | some d =>
        rw [q2] at h
        obtain ⟨w, h1, h2, h3⟩ := r.out q
        have e : σ[i]? = some (some v) := r.al v i List.mem_cons_self
        rw [h1] at e
        cases e
        have r2 := (h2.freeze q2).copy
        have r3 : R K G0 H ((v, .fz d) :: ((v, .fz d) :: T ++ (ents σ (put Γ i none) ++ F))) := by
          refine (R.tail (v := v) (o := .al i) (r2.perm ?_))
          exact (List.Perm.cons _ (.swap _ _ _)).trans (.swap _ _ _)
        exact ⟨d, _, h, Rel.back h3 (r.al.tail.cons fun _ z => nomatch z) (get_lt q) h1 r3⟩
  | fz d => exact ⟨d, Γ, h, r⟩
  | own ds => exact ⟨_, Γ, h, r.fz' rfl⟩
  | ol _ => exact gen h
  | box _ _ => exact gen h
  | any => exact gen h
  | dct _ => exact gen h
  | ob _ => exact gen h
/-- the value at hand as it is: what a slot held moves out of it -/
def mov (Γ : Gm) (o : O) (k : O → Gm → Prop) : Prop := match o with
  | .al i => match get Γ i with
    | some (.al _) => False
    | some u => k u (put Γ i none)
    | none => False
  | o => k o Γ
theorem Rel.moved {k : O → Gm → Prop} (r : Rel K G0 ((v, o) :: T) F σ H Γ) (h : mov Γ o k) : ∃ o' Γ', k o' Γ' ∧ (∀ i, o' ≠ .al i) ∧ Rel K G0 ((v, o') :: T) F σ H Γ' := by
  cases o with
  | al i =>
    have h : (match get Γ i with | some (.al _) => False | some u => k u (put Γ i none) | none => False) := h
    cases q : get Γ i with
    | none => rw [q] at h; exact h.elim
    | some u =>
      obtain ⟨w, h1, h2, h3⟩ := r.out q
      have e : σ[i]? = some (some v) := r.al v i List.mem_cons_self
      rw [h1] at e
      cases e
      have r3 : R K G0 H ((v, u) :: (T ++ (ents σ (put Γ i none) ++ F))) := R.tail (v := v) (o := .al i) (h2.perm (.swap _ _ _))
      have nal : (∀ j, u ≠ .al j) → k u (put Γ i none) → ∃ o' Γ', k o' Γ' ∧ (∀ i, o' ≠ .al i) ∧ Rel K G0 ((v, o') :: T) F σ H Γ' := fun n hk => ⟨u, _, hk, n, h3, r.al.tail.cons n, r3⟩
      rw [q] at h
      cases u with
      | al j => exact h.elim
      | fz d => exact nal (fun _ z => nomatch z) h
      | own _ => exact nal (fun _ z => nomatch z) h
      | ol _ => exact nal (fun _ z => nomatch z) h
      | box _ _ => exact nal (fun _ z => nomatch z) h
      | any => exact nal (fun _ z => nomatch z) h
      | dct _ => exact nal (fun _ z => nomatch z) h
      | ob _ => exact nal (fun _ z => nomatch z) h
  | fz d => exact ⟨_, Γ, h, (fun _ z => nomatch z), r⟩
  | own ds => exact ⟨_, Γ, h, (fun _ z => nomatch z), r⟩
  | ol _ => exact ⟨_, Γ, h, (fun _ z => nomatch z), r⟩
  | box _ _ => exact ⟨_, Γ, h, (fun _ z => nomatch z), r⟩
  | any => exact ⟨_, Γ, h, (fun _ z => nomatch z), r⟩
  | dct _ => exact ⟨_, Γ, h, (fun _ z => nomatch z), r⟩
  | ob _ => exact ⟨_, Γ, h, (fun _ z => nomatch z), r⟩
end
end Dl
end
section
namespace Dl
open PySem PySem.Spec PyProof.Rows L2
abbrev TEd := Gm → (O → Gm → Prop) → Prop
abbrev TTd := Gm → (Bool → Gm → Prop) → Prop
abbrev TAd := Gm → (List O → Gm → Prop) → Prop
def liftE (K : PySem.W.Frag) (τ : TEd) : TE := fun σ H Q => ∃ G0 Γ T F Kt, Rel K G0 T F σ H Γ ∧ τ Γ Kt ∧ ∀ o Γ' v H', Kt o Γ' → Rel K G0 ((v, o) :: T) F σ H' Γ' → Q v H'
def liftT (K : PySem.W.Frag) (τ : TTd) : TT := fun σ H Q => ∃ G0 Γ T F Kt, Rel K G0 T F σ H Γ ∧ τ Γ Kt ∧ ∀ b Γ' H', Kt b Γ' → Rel K G0 T F σ H' Γ' → Q b H'
def liftA (K : PySem.W.Frag) (τ : TAd) : TA := fun σ H Q => ∃ G0 Γ T F Kt, Rel K G0 T F σ H Γ ∧ τ Γ Kt ∧ ∀ os Γ' vs H', Kt os Γ' → vs.length = os.length → Rel K G0 (vs.zip os ++ T) F σ H' Γ' → Q vs H'
abbrev DE (X : Cx) (e : Expr) (τ : TEd) : Prop := PE X e (liftE X.K τ)
abbrev DT (X : Cx) (e : Expr) (τ : TTd) : Prop := PT X e (liftT X.K τ)
abbrev DA (X : Cx) (es : List Expr) (τ : TAd) : Prop := PA X es (liftA X.K τ)
theorem peI {X : Cx} {e : Expr} {t t' : TE} (h : PE X e t) (f : ∀ σ H Q, t' σ H Q → t σ H Q) : PE X e t' := ⟨fun pins s σ H Q I q => h.run pins s σ H Q I (f σ H Q q)⟩
theorem ptI {X : Cx} {e : Expr} {t t' : TT} (h : PT X e t) (f : ∀ σ H Q, t' σ H Q → t σ H Q) : PT X e t' := ⟨fun pins s σ H Q I q => h.run pins s σ H Q I (f σ H Q q)⟩
theorem paI {X : Cx} {e : List Expr} {t t' : TA} (h : PA X e t) (f : ∀ σ H Q, t' σ H Q → t σ H Q) : PA X e t' := ⟨fun pos pins s σ H Q I q => h.run pos pins s σ H Q I (f σ H Q q)⟩
theorem psI {X : Cx} {e : Stmt} {t t' : TS} (h : PS X e t) (f : ∀ D σ H, t' D σ H → t D σ H) : PS X e t' := ⟨fun pins s σ H D I q => h.run pins s σ H D I (f D σ H q)⟩
theorem pssI {X : Cx} {e : List Stmt} {t t' : TS} (h : PSs X e t) (f : ∀ D σ H, t' D σ H → t D σ H) : PSs X e t' := ⟨fun pins s σ H D I q => h.run pins s σ H D I (f D σ H q)⟩
section
variable {K : PySem.W.Frag} {G0 H H' : Hp} {T F : Ent} {σ : Sl} {Γ : Gm} {v w : V} {o p : O} {d e : PyData} {i : Nat}
theorem Rel.drop (r : Rel K G0 ((v, o) :: T) F σ H Γ) : Rel K G0 T F σ H Γ := ⟨r.fit, r.al.tail, r.r.tail⟩
theorem Rel.dropN : ∀ {vs : List V} {os : List O}, Rel K G0 (vs.zip os ++ T) F σ H Γ → Rel K G0 T F σ H Γ
  | [], _, r => r
  | _ :: _, [], r => r
  | _ :: vs, _ :: os, r => Rel.dropN (vs := vs) (os := os) (Rel.drop r)
theorem Rel.push (r : Rel K G0 T F σ H Γ) (h : ∀ G, Dq K G v d) : Rel K G0 ((v, .fz d) :: T) F σ H Γ := ⟨r.fit, r.al.cons (fun _ z => nomatch z), r.r.add h⟩
theorem Rel.grow (r : Rel K G0 T F σ H Γ) (e : Same H H') : Rel K G0 T F σ H' Γ := ⟨r.fit, r.al, r.r.grow e⟩
theorem Rel.swap (r : Rel K G0 ((v, o) :: (w, p) :: T) F σ H Γ) : Rel K G0 ((w, p) :: (v, o) :: T) F σ H Γ :=
  ⟨r.fit, fun u i m => r.al u i (by simp only [List.mem_cons] at m ⊢; rcases m with m | m | m <;> simp [m]), r.r.perm (.swap _ _ _)⟩
end
section
variable {X : Cx} {a b c : Expr} {τa τb τc : TEd} {τt : TTd} {pos : Pos} {es : List Expr} {τs : TAd}
def dC (d : PyData) : TEd := fun Γ Kt => Kt (.fz d) Γ
theorem dC_of {e : Expr} {v : V} {d : PyData} (h : PE X e (tC v)) (hd : ∀ G, Dq X.K G v d) : DE X e (dC d) := peI h fun σ H Q ⟨G0, Γ, T, F, Kt, r, k, q⟩ => q _ _ _ _ k (r.push hd)
theorem de_int {i j pos} : DE X (.Constant (.int i) j pos) (dC (.int i)) := dC_of pe_int fun _ => .int i
theorem de_bl {b j pos} : DE X (.Constant (.bool b) j pos) (dC (.bool b)) := dC_of pe_bl fun _ => .bl b
theorem de_non {j pos} : DE X (.Constant .none j pos) (dC .none) := dC_of pe_non fun _ => .non
theorem de_str {x j pos} : DE X (.Constant (.str x) j pos) (dC (.str x)) := dC_of pe_str fun _ => .str x
def dVar (i : Nat) : TEd := fun Γ Kt => match get Γ i with
  | some (.fz d) => Kt (.fz d) Γ
  | some (.al _) => False
  | some .any => False
  | some _ => Kt (.al i) Γ
  | none => False
theorem de_of_var {e : Expr} {i : Nat} (h : PE X e (tVar i)) : DE X e (dVar i) := peI h fun σ H Q ⟨G0, Γ, T, F, Kt, r, k, q⟩ => by
  unfold dVar at k
  cases g : get Γ i with
  | none => rw [g] at k; exact k.elim
  | some o =>
    obtain ⟨v, h1, h2, h3⟩ := r.out g
    have named : Kt (.al i) Γ → Q v H := fun k => q _ _ v H k ⟨r.fit, fun u j m => by
      rcases List.mem_cons.mp m with e | m
      · cases e
        exact h1
      · exact r.al u j m, r.r.addAl⟩
    refine ⟨v, h1, ?_⟩
    rw [g] at k
    cases o with
    | fz d =>
      refine q _ _ v H k ⟨r.fit, r.al.cons (fun _ z => nomatch z), ?_⟩
      have r2 := h2.copy
      have r3 := Rel.back (v := v) (o := .fz d) (T := (v, .fz d) :: T) h3 (r.al.cons (fun _ z => nomatch z)) (get_lt g) h1 (r2.perm (.swap _ _ _))
      have e : put Γ i (some (.fz d)) = Γ := put_get g
      rw [e] at r3
      exact r3.r
    | al _ => exact k.elim
    | any => exact k.elim
    | own _ => exact named k
    | ol _ => exact named k
    | box _ _ => exact named k
    | dct _ => exact named k
    | ob _ => exact named k
where
  put_get {o : O} : ∀ {Γ : Gm} {i : Nat}, get Γ i = some o → put Γ i (some o) = Γ
    | [], _, h => by simp [get] at h
    | x :: Γ, 0, h => by
      have h : x = some o := h
      rw [h]
      rfl
    | x :: Γ, i + 1, h => congrArg (x :: ·) (put_get (Γ := Γ) (i := i) h)
/-- the name in slot i -/
theorem dv (i : Nat) {x : Str} {pos : Pos} (hN : X.N[i]? = some x := by rfl) (hv : Vis X.env.scope x := by first | exact Or.inl rfl | exact Or.inr (Or.inl rfl) | exact Or.inr (Or.inr rfl)) (hd : (x == ("__debug__" : Str)) = false := by decide)
    (hcd : (x == ("__classdict__" : Str)) = false := by decide) : DE X (.Name x pos) (dVar i) := de_of_var (pe_var hN hv hd hcd)
/-- a rule of two values, told over data -/
def Fit2 (K : PySem.W.Frag) (r : R2) (δ : Gm → O → O → (O → Gm → Prop) → Prop) : Prop :=
  ∀ (G0 : Hp) (Γ : Gm) (T F : Ent) (σ : Sl) (H : Hp) (v w : V) (o p : O) (Kt : O → Gm → Prop) (Q : VK), Rel K G0 ((w, p) :: (v, o) :: T) F σ H Γ → δ Γ o p Kt →
    (∀ z Γ' u H', Kt z Γ' → Rel K G0 ((u, z) :: T) F σ H' Γ' → Q u H') → r v w H Q
def dBin (δ : Gm → O → O → (O → Gm → Prop) → Prop) (τa τb : TEd) : TEd := fun Γ Kt => τa Γ fun o Γ1 => τb Γ1 fun p Γ2 => δ Γ2 o p Kt
theorem dBin_of {r : R2} {δ : Gm → O → O → (O → Gm → Prop) → Prop} (hf : Fit2 X.K r δ) {e : Expr} (h : PE X e (tOp r (liftE X.K τa) (liftE X.K τb))) : DE X e (dBin δ τa τb) :=
  peI h fun σ H Q ⟨G0, Γ, T, F, Kt, R1, k, q⟩ => ⟨G0, Γ, T, F, _, R1, k, fun o Γ1 v H1 k1 R2 => ⟨G0, Γ1, (v, o) :: T, F, _, R2, k1, fun p Γ2 w H2 k2 R3 => hf G0 Γ2 T F σ H2 v w o p Kt Q R3 k2 q⟩⟩
theorem de_op {op : Operator} {r : R2} {δ : Gm → O → O → (O → Gm → Prop) → Prop} (hf : Fit2 X.K r δ) (ho : OpR X (binaryOp op) r) (ha : DE X a τa) (hb : DE X b τb) : DE X (.BinOp a op b pos) (dBin δ τa τb) := dBin_of hf (pe_op ho ha hb)
theorem de_cmp {op : CmpOp} {r : R2} {δ : Gm → O → O → (O → Gm → Prop) → Prop} (hf : Fit2 X.K r δ) (ho : OpR X (compareOp op) r) (ha : DE X a τa) (hb : DE X b τb) (hm : behindInMarks op b = false) : DE X (.Compare a [op] [b] pos) (dBin δ τa τb) := dBin_of hf (pe_cmpR ho ha hb hm)
/-- a test -/
def onB (o : O) (k : Bool → Prop) : Prop := match o with
  | .fz (.bool c) => k c
  | _ => False
theorem onB_use {K : PySem.W.Frag} {G0 H : Hp} {T F : Ent} {σ : Sl} {Γ : Gm} {v : V} {o : O} {k : Bool → Prop} (R1 : Rel K G0 ((v, o) :: T) F σ H Γ) (h : onB o k) : ∃ c, v = .bl c ∧ o = .fz (.bool c) ∧ k c := by
  unfold onB at h
  split at h
  · exact ⟨_, R1.r.bl, rfl, h⟩
  · exact h.elim
def dTest (τ : TEd) : TTd := fun Γ Kt => τ Γ fun o Γ1 => onB o fun c => Kt c Γ1
theorem dTest_use {K : PySem.W.Frag} {G0 H : Hp} {T F : Ent} {σ : Sl} {Γ' : Gm} {Kt : Bool → Gm → Prop} {v : V} {o : O} {Q : Bool → Hp → Prop} (R1 : Rel K G0 ((v, o) :: T) F σ H Γ') (k : onB o fun c => Kt c Γ')
    (q : ∀ b Γ' H', Kt b Γ' → Rel K G0 T F σ H' Γ' → Q b H') : ∃ c, v = .bl c ∧ Q c H := by
  obtain ⟨c, rfl, rfl, k2⟩ := onB_use R1 k
  exact ⟨c, rfl, q c Γ' H k2 R1.drop⟩
theorem dt_val {e : Expr} {τ : TEd} (h : DE X e τ) (he : ∀ whole, isTrue e X.env whole = (do let v ← whole; standAt e.pos; holding [v] (truthy v)) := by intro _; rfl) : DT X e (dTest τ) :=
  ptI (pt_val h he) fun σ H Q ⟨G0, Γ, T, F, Kt, R1, k, q⟩ => ⟨G0, Γ, T, F, _, R1, k, fun o Γ1 v H1 k1 R2 => dTest_use R2 k1 q⟩
theorem dt_cmp {op : CmpOp} {r : R2} {δ : Gm → O → O → (O → Gm → Prop) → Prop} (hf : Fit2 X.K r δ) (ho : OpR X (compareOp op) r) (ha : DE X a τa) (hb : DE X b τb) (hm : behindInMarks op b = false) : DT X (.Compare a [op] [b] pos) (dTest (dBin δ τa τb)) :=
  ptI (pt_cmpR ho ha hb hm) fun σ H Q ⟨G0, Γ, T, F, Kt, R1, k, q⟩ => ⟨G0, Γ, T, F, _, R1, k, fun o Γ1 v H1 k1 R2 => ⟨G0, Γ1, (v, o) :: T, F, _, R2, k1, fun p Γ2 w H2 k2 R3 => hf G0 Γ2 T F σ H2 v w o p _ _ R3 k2 fun z Γ' u H' k3 R4 => dTest_use R4 k3 q⟩⟩
def dNotT (t : TTd) : TTd := fun Γ Kt => t Γ fun c Γ1 => Kt (!c) Γ1
theorem dt_not (h : DT X a τt) : DT X (.UnaryOp .Not a pos) (dNotT τt) := ptI (pt_not h) fun σ H Q ⟨G0, Γ, T, F, Kt, R1, k, q⟩ => ⟨G0, Γ, T, F, _, R1, k, fun b Γ1 H1 k1 R2 => q _ Γ1 H1 k1 R2⟩
abbrev DW (X : Cx) (e : Expr) (τ : TTd) : Prop := PW X e (liftT X.K τ)
theorem pwI {e : Expr} {t t' : TT} (h : PW X e t) (f : ∀ σ H Q, t' σ H Q → t σ H Q) : PW X e t' := ⟨fun wh pins s σ H Q I q => h.run wh pins s σ H Q I (f σ H Q q)⟩
def dAndT (t u : TTd) : TTd := fun Γ Kt => t Γ fun c Γ1 => (c = true → u Γ1 Kt) ∧ (c = false → Kt false Γ1)
def dOrT (t u : TTd) : TTd := fun Γ Kt => t Γ fun c Γ1 => (c = true → Kt true Γ1) ∧ (c = false → u Γ1 Kt)
variable {τu : TTd} {rest : List Expr}
theorem dw_and1 (ha : DT X a τt) : DW X (.BoolOp .And [a] pos) τt := pw_and1 ha
theorem dw_or1 (ha : DT X a τt) : DW X (.BoolOp .Or [a] pos) τt := pw_or1 ha
theorem dw_and (ha : DT X a τt) (hb : DW X (.BoolOp .And (b :: rest) pos) τu) : DW X (.BoolOp .And (a :: b :: rest) pos) (dAndT τt τu) := pwI (pw_and ha hb) fun σ H Q ⟨G0, Γ, T, F, Kt, R1, k, q⟩ => ⟨G0, Γ, T, F, _, R1, k, fun c Γ1 H1 k1 R2 => by
  cases c with
  | true => rw [if_pos rfl]; exact ⟨G0, Γ1, T, F, Kt, R2, k1.1 rfl, q⟩
  | false => rw [if_neg (by decide)]; exact q _ Γ1 H1 (k1.2 rfl) R2⟩
theorem dw_or (ha : DT X a τt) (hb : DW X (.BoolOp .Or (b :: rest) pos) τu) : DW X (.BoolOp .Or (a :: b :: rest) pos) (dOrT τt τu) := pwI (pw_or ha hb) fun σ H Q ⟨G0, Γ, T, F, Kt, R1, k, q⟩ => ⟨G0, Γ, T, F, _, R1, k, fun c Γ1 H1 k1 R2 => by
  cases c with
  | true => rw [if_pos rfl]; exact q _ Γ1 H1 (k1.1 rfl) R2
  | false => rw [if_neg (by decide)]; exact ⟨G0, Γ1, T, F, Kt, R2, k1.2 rfl, q⟩⟩
theorem dt_w (h : DW X a τt) : DT X a τt := h.pt
/-- as values -/
def dAndV (t u : TEd) : TEd := fun Γ Kt => t Γ fun o Γ1 => onB o fun c => (c = true → u Γ1 Kt) ∧ (c = false → Kt (.fz (.bool false)) Γ1)
def dOrV (t u : TEd) : TEd := fun Γ Kt => t Γ fun o Γ1 => onB o fun c => (c = true → Kt (.fz (.bool true)) Γ1) ∧ (c = false → u Γ1 Kt)
def dNotV (t : TEd) : TEd := fun Γ Kt => t Γ fun o Γ1 => onB o fun c => Kt (.fz (.bool (!c))) Γ1
theorem de_and (ha : DE X a τa) (hb : DE X (.BoolOp .And (b :: rest) pos) τb) : DE X (.BoolOp .And (a :: b :: rest) pos) (dAndV τa τb) := peI (pe_and ha hb) fun σ H Q ⟨G0, Γ, T, F, Kt, R1, k, q⟩ => ⟨G0, Γ, T, F, _, R1, k, fun o Γ1 v H1 k1 R2 => by
  obtain ⟨c, rfl, rfl, k2⟩ := onB_use R2 k1
  refine ⟨c, rfl, ?_⟩
  cases c with
  | true => rw [if_pos rfl]; exact ⟨G0, Γ1, T, F, Kt, R2.drop, k2.1 rfl, q⟩
  | false => rw [if_neg (by decide)]; exact q _ Γ1 _ H1 (k2.2 rfl) R2⟩
theorem de_or (ha : DE X a τa) (hb : DE X (.BoolOp .Or (b :: rest) pos) τb) : DE X (.BoolOp .Or (a :: b :: rest) pos) (dOrV τa τb) := peI (pe_or ha hb) fun σ H Q ⟨G0, Γ, T, F, Kt, R1, k, q⟩ => ⟨G0, Γ, T, F, _, R1, k, fun o Γ1 v H1 k1 R2 => by
  obtain ⟨c, rfl, rfl, k2⟩ := onB_use R2 k1
  refine ⟨c, rfl, ?_⟩
  cases c with
  | true => rw [if_pos rfl]; exact q _ Γ1 _ H1 (k2.1 rfl) R2
  | false => rw [if_neg (by decide)]; exact ⟨G0, Γ1, T, F, Kt, R2.drop, k2.2 rfl, q⟩⟩
theorem de_one {op} (h : DE X a τa) : DE X (.BoolOp op [a] pos) τa := pe_one h
theorem de_not (ha : DE X a τa) : DE X (.UnaryOp .Not a pos) (dNotV τa) := peI (pe_not ha) fun σ H Q ⟨G0, Γ, T, F, Kt, R1, k, q⟩ => ⟨G0, Γ, T, F, _, R1, k, fun o Γ1 v H1 k1 R2 => by
  obtain ⟨c, rfl, rfl, k2⟩ := onB_use R2 k1
  exact ⟨c, rfl, q _ Γ1 _ H1 k2 (R2.drop.push fun _ => .bl _)⟩⟩
def dIf (t : TTd) (u w : TEd) : TEd := fun Γ Kt => t Γ fun c Γ1 => (c = true → u Γ1 Kt) ∧ (c = false → w Γ1 Kt)
theorem de_if (hc : DT X c τt) (ha : DE X a τa) (hb : DE X b τb) : DE X (.IfExp c a b pos) (dIf τt τa τb) := peI (pe_ifExp hc ha hb) fun σ H Q ⟨G0, Γ, T, F, Kt, R1, k, q⟩ => ⟨G0, Γ, T, F, _, R1, k, fun c Γ1 H1 k1 R2 => by
  cases c with
  | true => rw [if_pos rfl]; exact ⟨G0, Γ1, T, F, Kt, R2, k1.1 rfl, q⟩
  | false => rw [if_neg (by decide)]; exact ⟨G0, Γ1, T, F, Kt, R2, k1.2 rfl, q⟩⟩
def dNil : TAd := fun Γ Kt => Kt [] Γ
def dCons (t : TEd) (u : TAd) : TAd := fun Γ Kt => t Γ fun o Γ1 => u Γ1 fun os Γ2 => Kt (o :: os) Γ2
theorem da_nil : DA X [] dNil := paI pa_nil fun σ H Q ⟨G0, Γ, T, F, Kt, R1, k, q⟩ => q [] Γ [] H k rfl R1
theorem da_cons {e : Expr} (ha : DE X e τa) (hr : DA X es τs) (hs : starEach (e :: es) X.env = (false, eval e X.env) :: starEach es X.env := by rfl) : DA X (e :: es) (dCons τa τs) :=
  paI (pa_cons ha hr hs) fun σ H Q ⟨G0, Γ, T, F, Kt, R1, k, q⟩ => ⟨G0, Γ, T, F, _, R1, k, fun o Γ1 v H1 k1 R2 => ⟨G0, Γ1, (v, o) :: T, F, _, R2, k1, fun os Γ2 vs H2 k2 hl R3 => q (o :: os) Γ2 (v :: vs) H2 k2 (congrArg (· + 1) hl) ⟨R3.fit, fun u i m => R3.al u i (by
      simp only [List.zip_cons_cons, List.cons_append, List.mem_cons, List.mem_append] at m ⊢
      rcases m with m | m | m <;> simp [m]), R3.r.perm (by
      simp only [List.zip_cons_cons, List.cons_append, List.append_assoc]
      exact List.perm_middle)⟩⟩⟩
def FitC (K : PySem.W.Frag) (r : List V → Hp → VK → Prop) (ρ : Gm → List O → (O → Gm → Prop) → Prop) : Prop :=
  ∀ (G0 : Hp) (Γ : Gm) (T F : Ent) (σ : Sl) (H : Hp) (vs : List V) (os : List O) (Kt : O → Gm → Prop) (Q : VK), vs.length = os.length → Rel K G0 (vs.zip os ++ T) F σ H Γ → ρ Γ os Kt →
    (∀ z Γ' u H', Kt z Γ' → Rel K G0 ((u, z) :: T) F σ H' Γ' → Q u H') → r vs H Q
def dCB (ρ : Gm → List O → (O → Gm → Prop) → Prop) (t : TAd) : TEd := fun Γ Kt => t Γ fun os Γ1 => ρ Γ1 os Kt
theorem dCB_of {r : List V → Hp → VK → Prop} {ρ : Gm → List O → (O → Gm → Prop) → Prop} {e : Expr} (hf : FitC X.K r ρ) (h : PE X e (tCB r (liftA X.K τs))) : DE X e (dCB ρ τs) :=
  peI h fun σ H Q ⟨G0, Γ, T, F, Kt, R1, k, q⟩ => ⟨G0, Γ, T, F, _, R1, k, fun os Γ1 vs H1 k1 hl R2 => hf G0 Γ1 T F σ H1 vs os Kt Q hl R2 k1 q⟩
end
end Dl
end
section
namespace Dl
open PySem PySem.Spec PyProof.Rows L2
def SQ (K : PySem.W.Frag) (H : Hp) (k : Bool) (a : Addr) (xs : List V) : Prop := match k with
  | true => SqL K H a xs
  | false => SqT K H a xs
def SI (h : Heap) (k : Bool) (it a : Addr) (i : Nat) : Prop := match k with
  | true => h.IsListIter it a i
  | false => h.IsTupleIter it a i
def SV (h : Heap) (k : Bool) (a : Addr) (its : Array Value) : Prop := match k with
  | true => h.IsList a its
  | false => h.IsTuple a its
def itO (k : Bool) (a : Addr) : Obj := match k with
  | true => { cls := .type "list_iterator", data := .fields #[.ref a, .int 0 0] }
  | false => { cls := .type "tuple_iterator", data := .fields #[.ref a, .int 0 0] }
section
variable {X : Cx} {pins : List (Addr × Obj)} {σ : Sl} {H : Hp} {s : Shared} {k : Bool} {a it : Addr} {xs ys : List V}
theorem sq_val (I : Inv X pins σ H s) (h : SQ X.K H k a xs) : ∃ its : List Value, Vals xs its ∧ SV s.heap k a its.toArray := by
  cases k with
  | true => obtain ⟨its, rv, p, _⟩ := I.list h; exact ⟨its, rv, p.isList⟩
  | false => obtain ⟨its, rv, p, _⟩ := I.tuple h; exact ⟨its, rv, (show s.heap.IsTuple a its.toArray from p)⟩
theorem sq_inj (I : Inv X pins σ H s) (h : SQ X.K H k a xs) (h' : SQ X.K H k a ys) : xs = ys := by
  cases k with
  | true => exact I.list_inj h h'
  | false => exact I.tuple_inj h h'
theorem sv_lt {h : Heap} {its : Array Value} (x : SV h k a its) : a < h.objs.size := by
  cases k with
  | true => obtain ⟨o, e, _⟩ := x; exact Heap.lt_size e
  | false => obtain ⟨o, e, _⟩ := (show h.IsTuple a its from x); exact Heap.lt_size e
theorem si_get {h : Heap} {i : Nat} (x : SI h k it a i) : ∃ o, h.get? it = some o ∧ ∀ v, o.data ≠ .cell v := by
  cases k with
  | true => obtain ⟨o, e, _, d⟩ := x; exact ⟨o, e, fun v q => by rw [d] at q; cases q⟩
  | false => obtain ⟨o, e, _, d⟩ := (show h.IsTupleIter it a i from x); exact ⟨o, e, fun v q => by rw [d] at q; cases q⟩
theorem si_stay {h h' : Heap} {i : Nat} (x : SI h k it a i) (e : ∀ o, h.get? it = some o → h'.get? it = some o) : SI h' k it a i := by
  cases k with
  | true => exact Heap.IsListIter.at x e
  | false => exact Heap.IsTupleIter.at x e
theorem si_new {h : Heap} (e : h.get? it = some (itO k a)) : SI h k it a 0 := by
  cases k with
  | true => exact ⟨_, e, rfl, rfl⟩
  | false => exact ⟨_, e, rfl, rfl⟩
theorem drawsK {P : Program} {w : World} {A : Around} (hh : A.handled = none) (k : Bool) (it l : Addr) (hne : l ≠ it) (items : Array Value) :
    Draws P w A it [it, l] items.size (fun i v => items[i]? = some v) (fun i h => SI h k it l i ∧ SV h k l items) := by
  cases k with
  | true => exact Draws.list hh it l hne items
  | false => exact Draws.tuple hh it l hne items
theorem beginsK (k : Bool) (l : Addr) (items : Array Value) : Begins (.ref l) (itO k l) fun h => SV h k l items := by
  cases k with
  | true => exact begins_list l items
  | false => exact begins_tuple l items
end
def ItS (K : PySem.W.Frag) (k : Bool) (a : Addr) : It := match k with
  | true => Itl K a
  | false => Itt K a
def ItEn (K : PySem.W.Frag) (k : Bool) (a : Addr) : It :=
  ⟨fun i H => ∃ (xs : List V) (x : V), SQ K H k a xs ∧ xs[i]? = some x, fun i H v H' => ∃ T x, v = .ref T ∧ H T = none ∧ H' = upd H T (.tup [.int (i : Nat), x]) ∧ ∀ xs, SQ K H k a xs → xs[i]? = some x, fun i H => ∃ xs : List V, SQ K H k a xs ∧ i = xs.length⟩
def ItZp (K : PySem.W.Frag) (k l : Bool) (a b : Addr) : It :=
  ⟨fun i H => ∃ (xs ys : List V) (x y : V), SQ K H k a xs ∧ SQ K H l b ys ∧ xs[i]? = some x ∧ ys[i]? = some y,
    fun i H v H' => ∃ T x y, v = .ref T ∧ H T = none ∧ H' = upd H T (.tup [x, y]) ∧ (∀ xs, SQ K H k a xs → xs[i]? = some x) ∧ ∀ ys, SQ K H l b ys → ys[i]? = some y,
    fun i H => ∃ xs ys : List V, SQ K H k a xs ∧ SQ K H l b ys ∧ i = min xs.length ys.length⟩
section
variable {P : Program} {w : World} {K : PySem.W.Frag}
theorem turn_enumK {elts : List Expr} {kk : Nat} {tpos : Pos} (k : Bool) {a e it : Addr} (hne : e ≠ it) (hae : a ≠ e) (hai : a ≠ it) :
    Turn P w K (.Tuple elts kk tpos) (ItEn K k a) [e, it] e (fun i h => (∃ old, IsEnum h e it ((i : Nat) : Int) old) ∧ SI h k it a i) where
  mem := by simp
  obj := fun i h st b hb => by
    obtain ⟨⟨old, he⟩, hi⟩ := st
    rcases (show b = e ∨ b = it by simpa using hb) with z | z
    · rw [z]; exact ⟨_, he, fun v q => nomatch q⟩
    · rw [z]; exact si_get hi
  keep := fun i h h' st q => let ⟨⟨old, he⟩, hi⟩ := st; ⟨⟨old, q e (by simp) _ he⟩, si_stay hi fun o z => q it (by simp) o z⟩
  item := by
    intro X hP hw hK hc i pins s σ H E I hf st hg
    subst hP hw hK
    obtain ⟨⟨old, he⟩, hit⟩ := st
    obtain ⟨xs, x, hq, hx⟩ := hg
    obtain ⟨its, rv, p⟩ := sq_val I hq
    obtain ⟨u, hu, ru⟩ := rv.get hx
    have hlt : i < its.toArray.size := by
      have := (List.getElem?_eq_some_iff.mp hu).1
      simpa using this
    have W := GoesN.enumFrom (elts := elts) (x1 := kk) (pos := tpos) (0 : Int) (drawsK (P := X.prog) (w := X.w) (A := X.A.in1) (I.ok.hd hc) k it a hai its.toArray) e hne (by simp [hne, Ne.symm hae]) (by simp)
    refine W.goes i s _ E hlt ⟨⟨old, by rw [Int.zero_add]; exact he⟩, hit, p⟩ fun v h' tk hY st' hk htk => ?_
    obtain ⟨T, t, y, rfl, hT, hy, hTT⟩ := hY
    have ey : y = u := by
      have h1 : its.toArray[i]? = some u := by simpa using hu
      exact Option.some.inj (hy.symm.trans h1)
    subst ey
    rw [Int.zero_add] at hTT
    obtain ⟨oT, eT, cT, nT, dT⟩ := hTT
    have new : ObjOk X.prog X.w (upd H T (.tup [.int (i : Nat), x])) h' T (.tup [.int (i : Nat), x]) :=
      ⟨by show 2 ≤ sizeLine; decide, [.int i t, y], .cons ⟨_, rfl⟩ (.cons ru .nil), ⟨oT, eT, cT, nT, dT⟩⟩
    have I1 : Inv X pins σ (upd H T (.tup [.int (i : Nat), x])) { s with heap := h', toks := tk } :=
      I.turnedNew (ch := [e, it]) (fun b ob hb q => hk b ob hb q) hf hT new
    obtain ⟨⟨old', he'⟩, hit', _⟩ := st'
    refine ⟨.ref T, _, I1, rfl, ⟨T, x, rfl, I.hok.fresh hT, rfl, fun ys hy => by rw [sq_inj I hy hq]; exact hx⟩, ⟨⟨old', ?_⟩, hit'⟩, fun b hb => ?_⟩
    · rw [Int.zero_add] at he'
      exact he'
    · have hb' : b < s.heap.objs.size := by
        rcases (show b = e ∨ b = it by simpa using hb) with z | z
        · rw [z]; exact Heap.lt_size he
        · rw [z]; obtain ⟨_, q, _⟩ := si_get hit; exact Heap.lt_size q
      rw [upd_ne (Nat.ne_of_lt (Nat.lt_of_lt_of_le hb' hT))]
      exact (hf b hb).1
  done := by
    intro X hP hw hK hc i pins s σ H E I hf st hg
    subst hP hw hK
    obtain ⟨⟨old, he⟩, hit⟩ := st
    obtain ⟨xs, hq, hx⟩ := hg
    obtain ⟨its, rv, p⟩ := sq_val I hq
    have hl : i = its.toArray.size := by rw [hx, rv.length]; simp
    subst hl
    have W := GoesN.enumFrom (elts := elts) (x1 := kk) (pos := tpos) (0 : Int) (drawsK (P := X.prog) (w := X.w) (A := X.A.in1) (I.ok.hd hc) k it a hai its.toArray) e hne (by simp [hne, Ne.symm hae]) (by simp)
    exact W.stops s _ E ⟨⟨old, by rw [Int.zero_add]; exact he⟩, hit, p⟩ fun h' tk hk htk => I.turnedL (t' := tk) (ch := [e, it]) (fun b ob hb q => hk b ob hb q) hf
  self := fun A i s Q E st h => let ⟨⟨_, he⟩, _⟩ := st; wpAny_pyIter_enum he h
theorem turn_zipK {elts : List Expr} {kk : Nat} {tpos : Pos} (k l : Bool) {a b z TI TO i1 i2 : Addr} (D : ZipSep2 z TI TO i1 i2 [i1, a] [i2, b]) (h1 : a ≠ i1) (h2 : b ≠ i2) :
    Turn P w K (.Tuple elts kk tpos) (ItZp K k l a b) [z, TI, TO, i1, i2] z (fun i h => IsZip h z TI TO .none ∧ IsTupOf2 h TI (.ref i1) (.ref i2) ∧ (∃ x y, IsTupOf2 h TO x y) ∧ SI h k i1 a i ∧ SI h l i2 b i) where
  mem := by simp
  obj := fun i h st c hc => by
    obtain ⟨hz, hTI, ⟨x, y, hTO⟩, q1, q2⟩ := st
    rcases (show c = z ∨ c = TI ∨ c = TO ∨ c = i1 ∨ c = i2 by simpa using hc) with q | q | q | q | q
    · rw [q]; exact ⟨_, hz, fun v q => nomatch q⟩
    · rw [q]; exact ⟨_, hTI, fun v q => nomatch q⟩
    · rw [q]; exact ⟨_, hTO, fun v q => nomatch q⟩
    · rw [q]; exact si_get q1
    · rw [q]; exact si_get q2
  keep := fun i h h' st q => by
    obtain ⟨hz, hTI, ⟨x, y, hTO⟩, q1, q2⟩ := st
    exact ⟨q z (by simp) _ hz, q TI (by simp) _ hTI, ⟨x, y, q TO (by simp) _ hTO⟩, si_stay q1 fun o e => q i1 (by simp) o e, si_stay q2 fun o e => q i2 (by simp) o e⟩
  item := by
    intro X hP hw hK hc i pins s σ H E I hf st hg
    subst hP hw hK
    obtain ⟨hz, hTI, ⟨x0, y0, hTO⟩, q1, q2⟩ := st
    obtain ⟨xs, ys, x, y, hqx, hqy, hx, hy⟩ := hg
    obtain ⟨its, rv, p⟩ := sq_val I hqx
    obtain ⟨its2, rv2, p2⟩ := sq_val I hqy
    obtain ⟨u, hu, ru⟩ := rv.get hx
    obtain ⟨u2, hu2, ru2⟩ := rv2.get hy
    have lt1 : i < its.length := (List.getElem?_eq_some_iff.mp hu).1
    have lt2 : i < its2.length := (List.getElem?_eq_some_iff.mp hu2).1
    have W := GoesN.zip2 (elts := elts) (x1 := kk) (pos := tpos) D (drawsK (P := X.prog) (w := X.w) (A := X.A.in1) (I.ok.hd hc) k i1 a h1 its.toArray) (drawsK (P := X.prog) (w := X.w) (A := X.A.in1) (I.ok.hd hc) l i2 b h2 its2.toArray)
    refine W.goes i s _ E (by simp; omega) ⟨hz, hTI, ⟨x0, y0, hTO⟩, ⟨q1, p⟩, ⟨q2, p2⟩⟩ fun v h' tk hY st' hk htk => ?_
    obtain ⟨T, u', u2', rfl, hT, hy1, hy2, hTT⟩ := hY
    have e1 : u' = u := Option.some.inj (hy1.symm.trans (by simpa using hu))
    have e2 : u2' = u2 := Option.some.inj (hy2.symm.trans (by simpa using hu2))
    subst e1
    subst e2
    obtain ⟨oT, eT, cT, nT, dT⟩ := hTT
    have new : ObjOk X.prog X.w (upd H T (.tup [x, y])) h' T (.tup [x, y]) := ⟨by show 2 ≤ sizeLine; decide, [u', u2'], .cons ru (.cons ru2 .nil), ⟨oT, eT, cT, nT, dT⟩⟩
    have I1 : Inv X pins σ (upd H T (.tup [x, y])) { s with heap := h', toks := tk } := I.turnedNew (ch := [z, TI, TO, i1, i2]) (fun c o hb q => hk c o (fun m => hb (by
      simp only [List.mem_cons, List.not_mem_nil, or_false] at m ⊢
      rcases m with m | m | m | m <;> simp [m])) q) hf hT new
    obtain ⟨hz', hTI', hTO', ⟨q1', _⟩, ⟨q2', _⟩⟩ := st'
    refine ⟨.ref T, _, I1, rfl, ⟨T, x, y, rfl, I.hok.fresh hT, rfl, fun l hl => by rw [sq_inj I hl hqx]; exact hx, fun l hl => by rw [sq_inj I hl hqy]; exact hy⟩, ⟨hz', hTI', hTO', q1', q2'⟩, fun c hcm => ?_⟩
    have hlt : c < s.heap.objs.size := by
      rcases (show c = z ∨ c = TI ∨ c = TO ∨ c = i1 ∨ c = i2 by simpa using hcm) with q | q | q | q | q
      · rw [q]; exact Heap.lt_size hz
      · rw [q]; exact Heap.lt_size hTI
      · rw [q]; exact Heap.lt_size hTO
      · rw [q]; obtain ⟨_, e1, _⟩ := si_get q1; exact Heap.lt_size e1
      · rw [q]; obtain ⟨_, e2, _⟩ := si_get q2; exact Heap.lt_size e2
    rw [upd_ne (Nat.ne_of_lt (Nat.lt_of_lt_of_le hlt hT))]
    exact (hf c hcm).1
  done := by
    intro X hP hw hK hc i pins s σ H E I hf st hg
    subst hP hw hK
    obtain ⟨hz, hTI, ⟨x0, y0, hTO⟩, q1, q2⟩ := st
    obtain ⟨xs, ys, hqx, hqy, hend⟩ := hg
    obtain ⟨its, rv, p⟩ := sq_val I hqx
    obtain ⟨its2, rv2, p2⟩ := sq_val I hqy
    have hl : i = min its.toArray.size its2.toArray.size := by rw [hend, rv.length, rv2.length]; simp
    subst hl
    have W := GoesN.zip2 (elts := elts) (x1 := kk) (pos := tpos) D (drawsK (P := X.prog) (w := X.w) (A := X.A.in1) (I.ok.hd hc) k i1 a h1 its.toArray) (drawsK (P := X.prog) (w := X.w) (A := X.A.in1) (I.ok.hd hc) l i2 b h2 its2.toArray)
    exact W.stops s _ E ⟨hz, hTI, ⟨x0, y0, hTO⟩, ⟨q1, p⟩, ⟨q2, p2⟩⟩ fun h' tk hk htk => I.turnedL (t' := tk) (ch := [z, TI, TO, i1, i2]) (fun c o hb q => hk c o (fun m => hb (by
      simp only [List.mem_cons, List.not_mem_nil, or_false] at m ⊢
      rcases m with m | m | m | m <;> simp [m])) q) hf
  self := fun A i s Q E st h => wpAny_pyIter_zip st.1 h
end
open AutoSeq1 in
set_option maxHeartbeats 1000000 in
theorem meets_enum1 {v : Value} {o : Obj} {H : Heap → Prop} (B : Begins v o H) :
    Meets (Builtin.«enumerate.__new__» ⟨[.type "enumerate", v], []⟩) (fun _ R s => H s.heap ∧ R (.ok (.ret (.ref (s.heap.push o).objs.size))) { s with heap := (s.heap.push o).push { cls := .type "enumerate", data := .fields #[.none, .bool false, .ref s.heap.objs.size, rawInt 0, .none, .none] } }) := by
  apply Meets.of_wp
  intro prog w A R s h
  obtain ⟨hp, g, d, tk, os⟩ := s
  obtain ⟨h1, h⟩ := h
  have hsub := sub_enumerate
  have q1 : ∀ {A2 : Around} {E2 : Value → Shared → Prop} {Q2 : Value → Shared → Prop}, Q2 (.ref hp.objs.size) ⟨hp.push o, g, d, tk, os⟩ → wpAny (model prog w) A2 (pyIter v) Q2 E2 ⟨hp, g, d, tk, os⟩ := fun q => B.iter prog w _ _ ⟨hp, g, d, tk, os⟩ _ h1 q
  wp_walk using q1
  apply wpAny_stack_any
  intro st
  apply wpAny_pure
  split
  · rename_i c _ _ _ _ _
    cases (c == Value.type "enumerate") <;> (wp_walk using q1; exact ⟨_, rfl, h⟩)
  · wp_walk using q1
    exact ⟨_, rfl, h⟩
theorem enum1 {prog : Program} {w : World} {A : Around} {E : Value → Shared → Prop} {s : Shared} {v : Value} {o : Obj} {H : Heap → Prop} {Q : Value → Shared → Prop} (B : Begins v o H) (h1 : H s.heap)
    (h : ∀ h', IsEnum h' (s.heap.objs.size + 1) s.heap.objs.size 0 .none → h'.get? s.heap.objs.size = some o → (∀ b o, s.heap.get? b = some o → h'.get? b = some o) → Q (.ref (s.heap.objs.size + 1)) { s with heap := h' }) :
    wpAny (model prog w) A (call (.type "enumerate") [v]) Q E s := by
  refine callType_new F.called_enumerate (by decide) (F.typeCall_enumerate_1 _) (F.newCall_enumerate_1 _) (fun obj => F.args_object_init_2 obj _) F.entry_enumerate_new (meets_enum1 B) ⟨h1, ?_⟩
  have hz : (s.heap.push o).objs.size = s.heap.objs.size + 1 := Heap.size_push _ _
  show _ ∧ _
  rw [hz]
  have he : IsEnum ((s.heap.push o).push { cls := .type "enumerate", data := .fields #[.none, .bool false, .ref s.heap.objs.size, rawInt 0, .none, .none] }) (s.heap.objs.size + 1) s.heap.objs.size 0 .none := by
    have q := Heap.get?_push_size (s.heap.push o) (o := { cls := .type "enumerate", data := .fields #[.none, .bool false, .ref s.heap.objs.size, rawInt 0, .none, .none] }) rfl
    rw [hz] at q
    exact q
  exact ⟨⟨_, he, rfl⟩, h _ he (Heap.get?_push_of_some _ (Heap.get?_push_size _ B.free)) fun b u x => Heap.get?_push_of_some _ (Heap.get?_push_of_some _ x)⟩
section
variable {X : Cx} {tg : Expr}
/-- the thing walked: a list or a tuple, by its kind -/
def iSeq (K : PySem.W.Frag) (tl : TE) : TI := fun σ H R' => tl σ H fun x H1 => ∃ k a, x = .ref a ∧ (∃ xs, SQ K H1 k a xs) ∧ R' (ItS K k a) H1
theorem pi_seq {e : Expr} {tl : TE} (hl : PE X e tl) : PI X tg e (iSeq X.K tl) := by
  constructor
  intro pins s σ H R' I h
  refine thn (hl.run pins s σ H _ I h) ?_
  rintro v s1 ⟨x, H1, I1, r1, k, a, rfl, ⟨xs, hq⟩, q⟩
  obtain rfl : v = Value.ref a := r1
  have fp1 : ∀ b, b ∈ [s1.heap.objs.size] → FpOk X pins H1 b := fun b hb => by
    rw [List.mem_singleton.mp hb]
    exact I1.fpOk (Nat.le_refl _) (I1.hok.fresh (Nat.le_refl _))
  cases k with
  | true =>
    obtain ⟨its, rv, p, hz⟩ := I1.list hq
    exact wpAny_pyIter_list p.isList ⟨_, [_], _, _, H1, rfl, I1.kept (t' := s1.toks) fun b o z => Heap.get?_push_of_some _ z, turn_list a _, ⟨_, Heap.get?_push_size _ rfl, rfl, rfl⟩, fp1, q⟩
  | false =>
    obtain ⟨its, rv, p, hz⟩ := I1.tuple hq
    exact wpAny_pyIter_tuple (show s1.heap.IsTuple a its.toArray from p) ⟨_, [_], _, _, H1, rfl, I1.kept (t' := s1.toks) fun b o z => Heap.get?_push_of_some _ z, turn_tuple a _, ⟨_, Heap.get?_push_size _ rfl, rfl, rfl⟩, fp1, q⟩
def iEnS (K : PySem.W.Frag) (ta : TA) : TI := fun σ H R' => ta σ H fun vs H1 => ∃ k a, vs = [.ref a] ∧ (∃ xs, SQ K H1 k a xs) ∧ R' (ItEn K k a) H1
theorem pi_enS {e : Expr} {ta : TA} {p pos tpos : Pos} {elts : List Expr} {kk : Nat} (hg : Gl X "enumerate") (hm : X.mg "enumerate" = none) (ha : PA X [e] ta) (hs : starEach [e] X.env = [(false, eval e X.env)] := by rfl) :
    PI X (.Tuple elts kk tpos) (.Call (.Name "enumerate" p) [e] [] pos) (iEnS X.K ta) := by
  constructor
  intro pins s σ H R' I h
  refine Call_ (ld_blt I hg hm boot_enumerate (PyProof.Rows.callWith_type1 (thn (ha.run pos pins s σ H _ I h) ?_) hs rfl))
  rintro us s1 ⟨vs, H1, I1, r1, k, a, rfl, ⟨xs, hq⟩, q⟩
  match us, r1 with
  | [_], .cons r .nil =>
    obtain rfl := (show _ = Value.ref a from r)
    obtain ⟨its, rv, p'⟩ := sq_val I1 hq
    have la := sv_lt p'
    have fresh2 : ∀ b, b ∈ [s1.heap.objs.size + 1, s1.heap.objs.size] → FpOk X pins H1 b := fun b hb => by
      have hle : s1.heap.objs.size ≤ b := by
        rcases (show b = s1.heap.objs.size + 1 ∨ b = s1.heap.objs.size by simpa using hb) with z | z
        · rw [z]; exact Nat.le_add_right _ _
        · rw [z]; exact Nat.le_refl _
      exact I1.fpOk hle (I1.hok.fresh hle)
    have body : ∀ h', IsEnum h' (s1.heap.objs.size + 1) s1.heap.objs.size 0 .none → h'.get? s1.heap.objs.size = some (itO k a) → (∀ b o, s1.heap.get? b = some o → h'.get? b = some o) →
        wpAny (model X.prog X.w) X.A (pyIter (.ref (s1.heap.objs.size + 1))) (PIE X pins σ (.Tuple elts kk tpos) R') X.xe { s1 with heap := h' } := fun h' he hit hk => by
      refine wpAny_pyIter_enum he ⟨s1.heap.objs.size + 1, [s1.heap.objs.size + 1, s1.heap.objs.size], _, _, H1, rfl, I1.kept (t' := s1.toks) hk, turn_enumK k (Nat.succ_ne_self _) (Nat.ne_of_lt (Nat.lt_succ_of_lt la)) (Nat.ne_of_lt la), ⟨⟨.none, he⟩, si_new hit⟩, fresh2, q⟩
    exact enum1 (beginsK k a its.toArray) p' body
def iZpS (K : PySem.W.Frag) (ta : TA) : TI := fun σ H R' => ta σ H fun vs H1 => ∃ k l a b, vs = [.ref a, .ref b] ∧ (∃ xs, SQ K H1 k a xs) ∧ (∃ ys, SQ K H1 l b ys) ∧ R' (ItZp K k l a b) H1
theorem pi_zpS {e e2 : Expr} {ta : TA} {p pos tpos : Pos} {elts : List Expr} {kk : Nat} (hg : Gl X "zip") (hm : X.mg "zip" = none) (ha : PA X [e, e2] ta)
    (hs : starEach [e, e2] X.env = (false, eval e X.env) :: starEach [e2] X.env := by rfl) (hpl : (backTo pos (starEach [e2] X.env)).any (·.1) = false := by rfl) :
    PI X (.Tuple elts kk tpos) (.Call (.Name "zip" p) [e, e2] [] pos) (iZpS X.K ta) := by
  constructor
  intro pins s σ H R' I h
  refine Call_ (ld_blt I hg hm PyProof.Rows.boot_zip (PyProof.Rows.callWith_type1 (thn (ha.run pos pins s σ H _ I h) ?_) hs hpl))
  rintro us s1 ⟨vs, H1, I1, r1, k, l, a, b, rfl, ⟨xs, hqx⟩, ⟨ys, hqy⟩, q⟩
  match us, r1 with
  | [_, _], .cons r (.cons r2 .nil) =>
    obtain rfl := (show _ = Value.ref a from r)
    obtain rfl := (show _ = Value.ref b from r2)
    obtain ⟨its, rv, p1⟩ := sq_val I1 hqx
    obtain ⟨its2, rv2, p2⟩ := sq_val I1 hqy
    have la := sv_lt p1
    have lb := sv_lt p2
    refine zip_begins2 (beginsK k a its.toArray) (beginsK l b its2.toArray) p1 p2 fun h' hz hTI hTO e1 e2 hsz hk => wpAny_pyIter_zip hz ?_
    have D : ZipSep2 (s1.heap.objs.size + 4) (s1.heap.objs.size + 2) (s1.heap.objs.size + 3) s1.heap.objs.size (s1.heap.objs.size + 1) [s1.heap.objs.size, a] [s1.heap.objs.size + 1, b] := zip_sep2 (by simpa using la) (by simpa using lb)
    refine ⟨s1.heap.objs.size + 4, [s1.heap.objs.size + 4, s1.heap.objs.size + 2, s1.heap.objs.size + 3, s1.heap.objs.size, s1.heap.objs.size + 1], _, _, H1, rfl, I1.kept (t' := s1.toks) hk, turn_zipK k l D (Nat.ne_of_lt la) (Nat.ne_of_lt (Nat.lt_succ_of_lt lb)), ⟨hz, hTI, ⟨_, _, hTO⟩, si_new e1, si_new e2⟩, fun c hcm => ?_, q⟩
    have hle : s1.heap.objs.size ≤ c := by
      rcases (show c = s1.heap.objs.size + 4 ∨ c = s1.heap.objs.size + 2 ∨ c = s1.heap.objs.size + 3 ∨ c = s1.heap.objs.size ∨ c = s1.heap.objs.size + 1 by simpa using hcm) with z | z | z | z | z <;> rw [z] <;> first | exact Nat.le_refl _ | exact Nat.le_add_right _ _
    exact I1.fpOk hle (I1.hok.fresh hle)
end
end Dl
end
section
namespace Dl
open PySem PySem.Spec PyProof.Rows L2
structure Feeds (K : PySem.W.Frag) (J : It) (n : Nat) (it : Nat → PyData) (S : Ent) : Prop where
  step : ∀ {G0 H : Hp} {L : Ent} {i : Nat}, R K G0 H (S ++ L) → i < n → J.go i H ∧ ∀ x H', J.yld i H x H' → R K G0 H' ((x, .fz (it i)) :: (S ++ L))
  stop : ∀ {G0 H : Hp} {L : Ent}, R K G0 H (S ++ L) → J.stop n H
abbrev TId := Gm → (Nat → (Nat → PyData) → Gm → Prop) → Prop
def liftI (K : PySem.W.Frag) (τ : TId) : TI := fun σ H R' => ∃ G0 Γ T F Kt, Rel K G0 T F σ H Γ ∧ τ Γ Kt ∧ ∀ n it Γ' J S H', Kt n it Γ' → Feeds K J n it S → Rel K G0 T (S ++ F) σ H' Γ' → R' J H'
abbrev DI (X : Cx) (tg e : Expr) (τ : TId) : Prop := PI X tg e (liftI X.K τ)
theorem piI {X : Cx} {tg e : Expr} {t t' : TI} (h : PI X tg e t) (f : ∀ σ H Q, t' σ H Q → t σ H Q) : PI X tg e t' := ⟨fun pins s σ H Q I q => h.run pins s σ H Q I (f σ H Q q)⟩
section
variable {K : PySem.W.Frag} {G0 H H' : Hp} {T F S : Ent} {σ : Sl} {Γ : Gm} {v w : V} {o p : O} {d e : PyData} {i : Nat} {ds es : List PyData}
/-- items of a list or a tuple -/
def itemsOf : PyData → Option (Bool × List PyData)
  | .list ds => some (true, ds)
  | .tuple ds => some (false, ds)
  | _ => none
theorem R.seq {L : Ent} {k : Bool} (r : R K G0 H ((v, .fz d) :: L)) (h : itemsOf d = some (k, ds)) : ∃ a vs, v = .ref a ∧ SQ K H k a vs ∧ vs.length = ds.length ∧ R K G0 H (fzs vs ds ++ ((v, .fz d) :: L)) := by
  cases d with
  | list xs =>
    cases h
    obtain ⟨a, vs, h1, h2, h3, h4⟩ := r.items
    exact ⟨a, vs, h1, SqL.of h2, h3, h4⟩
  | tuple xs => cases h; exact r.itemsT
  | none => cases h
  | bool _ => cases h
  | int _ => cases h
  | str _ => cases h
  | dict _ => cases h
theorem fzs_get : ∀ {vs : List V} {ds : List PyData} {i : Nat} {v : V} {L : Ent}, vs.length = ds.length → vs[i]? = some v → R K G0 H (fzs vs ds ++ L) → R K G0 H ((v, .fz (ds.getD i .none)) :: L)
  | [], [], i, v, L, _, h, _ => by simp at h
  | u :: vs, d :: ds, 0, v, L, hl, h, r => by
    have e : u = v := by simpa using h
    subst e
    have r2 : R K G0 H (fzs vs ds ++ ((u, .fz d) :: L)) := r.perm (List.perm_middle (l₁ := fzs vs ds) (l₂ := L) (a := (u, O.fz d))).symm
    have q : ∀ {M : Ent} {L : Ent}, R K G0 H (M ++ L) → R K G0 H L := fun {M} => by
      induction M with
      | nil => exact fun r => r
      | cons x M ih => exact fun r => ih (R.tail (v := x.1) (o := x.2) r)
    exact q r2
  | u :: vs, d :: ds, i + 1, v, L, hl, h, r => fzs_get (vs := vs) (ds := ds) (i := i) (Nat.succ.inj hl) (by simpa using h) (R.tail r)
  | [], _ :: _, _, _, _, hl, _, _ => by cases hl
  | _ :: _, [], _, _, _, hl, _, _ => by cases hl
theorem R.dropL {M L : Ent} (r : R K G0 H (M ++ L)) : R K G0 H L := by
  induction M with
  | nil => exact r
  | cons x M ih => exact ih (R.tail (v := x.1) (o := x.2) r)
theorem feeds_seq {k : Bool} {a : Addr} (h : itemsOf d = some (k, ds)) : Feeds K (ItS K k a) ds.length (fun i => ds.getD i .none) [(.ref a, .fz d)] where
  step := fun {G0 H L i} r hi => by
    obtain ⟨a', vs, e, hq, hl, r2⟩ := R.seq r h
    cases e
    have hv : vs[i]? = some vs[i] := List.getElem?_eq_getElem (by omega)
    have out : ∀ x, (∀ xs, SQ K H k a xs → xs[i]? = some x) → R K G0 H ((x, .fz (ds.getD i .none)) :: ([(.ref a, .fz d)] ++ L)) := fun x y => fzs_get hl (y vs hq) r2
    cases k with
    | true => exact ⟨⟨vs, _, hq, hv⟩, fun x H' y => by obtain ⟨e, y⟩ := y; subst e; exact out x y⟩
    | false => exact ⟨⟨vs, _, hq, hv⟩, fun x H' y => by obtain ⟨e, y⟩ := y; subst e; exact out x y⟩
  stop := fun {G0 H L} r => by
    obtain ⟨a', vs, e, hq, hl, r2⟩ := R.seq r h
    cases e
    cases k with
    | true => exact ⟨vs, hq, by omega⟩
    | false => exact ⟨vs, hq, by omega⟩
theorem feeds_range {lo : Int} {n : Nat} : Feeds K (Itr lo n) n (fun i => .int (lo + i)) [] where
  step := fun {G0 H L i} r hi => ⟨hi, fun x H' ⟨e, y⟩ => by
    subst e y
    exact R.add r fun _ => .int _⟩
  stop := fun {G0 H L} r => Nat.le_refl _
theorem feeds_enum {k : Bool} {a : Addr} (h : itemsOf d = some (k, ds)) : Feeds K (ItEn K k a) ds.length (fun i => .tuple [.int i, ds.getD i .none]) [(.ref a, .fz d)] where
  step := fun {G0 H L i} r hi => by
    obtain ⟨a', vs, e, hq, hl, r2⟩ := R.seq r h
    cases e
    have hv : vs[i]? = some vs[i] := List.getElem?_eq_getElem (by omega)
    refine ⟨⟨vs, _, hq, hv⟩, fun x H' y => ?_⟩
    obtain ⟨T, y, rfl, hT, rfl, hy⟩ := y
    have r3 := fzs_get hl (hy vs hq) r2
    exact R.tuple (vs := [.int (i : Nat), y]) (ds := [.int i, ds.getD i .none]) (r3.add fun _ => .int _) rfl hT
  stop := fun {G0 H L} r => by
    obtain ⟨a', vs, e, hq, hl, r2⟩ := R.seq r h
    cases e
    exact ⟨vs, hq, hl.symm⟩
theorem feeds_zip {k l : Bool} {a b : Addr} (h : itemsOf d = some (k, ds)) (h' : itemsOf e = some (l, es)) : Feeds K (ItZp K k l a b) (min ds.length es.length) (fun i => .tuple [ds.getD i .none, es.getD i .none]) [(.ref a, .fz d), (.ref b, .fz e)] where
  step := fun {G0 H L i} r hi => by
    obtain ⟨a', vs, e1, hq, hl, r2⟩ := R.seq r h
    cases e1
    have r0 : R K G0 H ((.ref b, .fz e) :: ((.ref a, .fz d) :: L)) := r.perm (.swap _ _ _)
    obtain ⟨b', us, e2, hq2, hl2, _⟩ := R.seq r0 h'
    cases e2
    have hv : vs[i]? = some vs[i] := List.getElem?_eq_getElem (by omega)
    have hu : us[i]? = some us[i] := List.getElem?_eq_getElem (by omega)
    refine ⟨⟨vs, us, _, _, hq, hq2, hv, hu⟩, fun x H' y => ?_⟩
    obtain ⟨T, y1, y2, rfl, hT, rfl, hy1, hy2⟩ := y
    have r3 := fzs_get hl (hy1 vs hq) r2
    have r4 : R K G0 H ((.ref b, .fz e) :: ((y1, .fz (ds.getD i .none)) :: ((.ref a, .fz d) :: L))) := r3.perm ((List.Perm.cons _ (.swap _ _ _)).trans (.swap _ _ _))
    obtain ⟨b', us', e2, hq3, hl3, r5⟩ := R.seq r4 h'
    cases e2
    have r6 := fzs_get hl3 (hy2 us' hq3) r5
    have r7 : R K G0 H ((y1, .fz (ds.getD i .none)) :: (y2, .fz (es.getD i .none)) :: ((.ref a, .fz d) :: (.ref b, .fz e) :: L)) := r6.perm (((List.Perm.swap _ _ _).cons _).trans (((List.Perm.swap _ _ _)).trans (.cons _ (.cons _ (.swap _ _ _)))))
    exact R.tuple (vs := [y1, y2]) (ds := [ds.getD i .none, es.getD i .none]) r7 rfl hT
  stop := fun {G0 H L} r => by
    obtain ⟨a', vs, e1, hq, hl, r2⟩ := R.seq r h
    cases e1
    have r0 : R K G0 H ((.ref b, .fz e) :: ((.ref a, .fz d) :: L)) := r.perm (.swap _ _ _)
    obtain ⟨b', us, e2, hq2, hl2, _⟩ := R.seq r0 h'
    cases e2
    exact ⟨vs, us, hq, hq2, by rw [hl, hl2]⟩
/-- several values at hand as data that stands still -/
def escs : Gm → List O → (List PyData → Gm → Prop) → Prop
  | Γ, [], k => k [] Γ
  | Γ, o :: os, k => esc Γ o fun d Γ1 => escs Γ1 os fun ds Γ2 => k (d :: ds) Γ2
theorem Rel.toF (r : Rel K G0 ((v, .fz d) :: T) F σ H Γ) : Rel K G0 T ((v, .fz d) :: F) σ H Γ := ⟨r.fit, r.al.tail, r.r.perm (by
  rw [List.cons_append]
  have q : (T ++ (ents σ Γ ++ (v, O.fz d) :: F)).Perm ((v, O.fz d) :: (T ++ (ents σ Γ ++ F))) := by
    rw [← List.append_assoc, ← List.append_assoc]
    exact List.perm_middle
  exact q.symm)⟩
theorem Rel.ofF (r : Rel K G0 T ((v, .fz d) :: F) σ H Γ) : Rel K G0 ((v, .fz d) :: T) F σ H Γ := ⟨r.fit, r.al.cons (fun _ z => nomatch z), r.r.perm (by
  rw [List.cons_append]
  have q : (T ++ (ents σ Γ ++ (v, O.fz d) :: F)).Perm ((v, O.fz d) :: (T ++ (ents σ Γ ++ F))) := by
    rw [← List.append_assoc, ← List.append_assoc]
    exact List.perm_middle
  exact q)⟩
theorem Rel.escapes : ∀ {vs : List V} {os : List O} {k : List PyData → Gm → Prop} {Γ : Gm} {T F : Ent}, vs.length = os.length → Rel K G0 (vs.zip os ++ T) F σ H Γ → escs Γ os k → ∃ ds Γ', k ds Γ' ∧ vs.length = ds.length ∧ Rel K G0 (fzs vs ds ++ T) F σ H Γ'
  | [], [], k, Γ, T, F, _, r, h => ⟨[], Γ, h, rfl, r⟩
  | v :: vs, o :: os, k, Γ, T, F, e, r, h => by
    obtain ⟨d, Γ1, h1, r1⟩ := Rel.escape (T := vs.zip os ++ T) r h
    obtain ⟨ds, Γ2, h2, l2, r2⟩ := Rel.escapes (Nat.succ.inj e) r1.toF h1
    exact ⟨d :: ds, Γ2, h2, congrArg (· + 1) l2, r2.ofF⟩
  | [], _ :: _, _, _, _, _, e, _, _ => by cases e
  | _ :: _, [], _, _, _, _, e, _, _ => by cases e
end
section
variable {X : Cx} {tg : Expr} {τ : TEd} {τs : TAd}
/-- for .. in a list or a tuple -/
def dSeqI (τ : TEd) : TId := fun Γ Kt => τ Γ fun o Γ1 => esc Γ1 o fun d Γ2 => match itemsOf d with
  | some (_, ds) => Kt ds.length (fun i => ds.getD i .none) Γ2
  | none => False
theorem di_seq {e : Expr} (h : DE X e τ) : DI X tg e (dSeqI τ) := piI (pi_seq h) fun σ H Q ⟨G0, Γ, T, F, Kt, R1, k, q⟩ => ⟨G0, Γ, T, F, _, R1, k, fun o Γ1 v H1 k1 R2 => by
  obtain ⟨d, Γ2, k2, R3⟩ := R2.escape k1
  cases hi : itemsOf d with
  | none => rw [hi] at k2; exact k2.elim
  | some p =>
    obtain ⟨kd, ds⟩ := p
    rw [hi] at k2
    obtain ⟨a, vs, rfl, hq, hl, _⟩ := R.seq R3.r hi
    exact ⟨kd, a, rfl, ⟨vs, hq⟩, q _ _ _ _ [(.ref a, .fz d)] _ k2 (feeds_seq hi) R3.toF⟩⟩
def inR (j : Int) : Prop := -(2 ^ 62) ≤ j ∧ j < 2 ^ 62
def dRng1 (τs : TAd) : TId := fun Γ Kt => τs Γ fun os Γ1 => match os with
  | [.fz (.int j)] => inR j ∧ Kt j.toNat (fun i => .int (0 + i)) Γ1
  | _ => False
theorem di_range1 {a : Expr} {p pos : Pos} (hg : Gl X "range") (hm : X.mg "range" = none) (ha : DA X [a] τs) (hs : starEach [a] X.env = [(false, eval a X.env)] := by rfl) : DI X tg (.Call (.Name "range" p) [a] [] pos) (dRng1 τs) :=
  piI (pi_range1 hg hm ha hs) fun σ H Q ⟨G0, Γ, T, F, Kt, R1, k, q⟩ => ⟨G0, Γ, T, F, _, R1, k, fun os Γ1 vs H1 k1 hl R2 => by
    split at k1
    · match vs, hl with
      | [v], _ =>
        obtain rfl := R.int R2.r
        exact ⟨_, rfl, k1.1.1, k1.1.2, q _ _ Γ1 _ [] H1 k1.2 feeds_range R2.drop⟩
    · exact k1.elim⟩
def dRng2 (τs : TAd) : TId := fun Γ Kt => τs Γ fun os Γ1 => match os with
  | [.fz (.int i), .fz (.int j)] => (inR i ∧ inR j) ∧ Kt (j - i).toNat (fun m => .int (i + m)) Γ1
  | _ => False
def dEnI (τs : TAd) : TId := fun Γ Kt => τs Γ fun os Γ1 => escs Γ1 os fun ds Γ2 => match ds with
  | [d] => match itemsOf d with
    | some (_, es) => Kt es.length (fun i => .tuple [.int i, es.getD i .none]) Γ2
    | none => False
  | _ => False
theorem di_enum {e : Expr} {p pos tpos : Pos} {elts : List Expr} {kk : Nat} (hg : Gl X "enumerate") (hm : X.mg "enumerate" = none) (ha : DA X [e] τs) (hs : starEach [e] X.env = [(false, eval e X.env)] := by rfl) :
    DI X (.Tuple elts kk tpos) (.Call (.Name "enumerate" p) [e] [] pos) (dEnI τs) := piI (pi_enS hg hm ha hs) fun σ H Q ⟨G0, Γ, T, F, Kt, R1, k, q⟩ => ⟨G0, Γ, T, F, _, R1, k, fun os Γ1 vs H1 k1 hl R2 => by
  obtain ⟨ds, Γ2, k2, l2, R3⟩ := Rel.escapes hl R2 k1
  match ds, vs, l2, k2, R3 with
  | [d], [v], _, k2, R3 =>
    have k2 : (match itemsOf d with | some (_, es) => Kt es.length (fun i => .tuple [.int i, es.getD i .none]) Γ2 | none => False) := k2
    cases hi : itemsOf d with
    | none => rw [hi] at k2; exact k2.elim
    | some p =>
      obtain ⟨kd, es⟩ := p
      rw [hi] at k2
      obtain ⟨a, us, rfl, hq, _, _⟩ := R.seq R3.r hi
      exact ⟨kd, a, rfl, ⟨us, hq⟩, q _ _ _ _ [(.ref a, .fz d)] _ k2 (feeds_enum hi) (Rel.toF (T := T) R3)⟩
  | [], _, _, k2, _ => exact k2.elim
  | _ :: _ :: _, _, _, k2, _ => exact k2.elim⟩
def dZpI (τs : TAd) : TId := fun Γ Kt => τs Γ fun os Γ1 => escs Γ1 os fun ds Γ2 => match ds with
  | [d, e] => match itemsOf d, itemsOf e with
    | some (_, xs), some (_, ys) => Kt (min xs.length ys.length) (fun i => .tuple [xs.getD i .none, ys.getD i .none]) Γ2
    | _, _ => False
  | _ => False
theorem di_zip {e e2 : Expr} {p pos tpos : Pos} {elts : List Expr} {kk : Nat} (hg : Gl X "zip") (hm : X.mg "zip" = none) (ha : DA X [e, e2] τs)
    (hs : starEach [e, e2] X.env = (false, eval e X.env) :: starEach [e2] X.env := by rfl) (hpl : (backTo pos (starEach [e2] X.env)).any (·.1) = false := by rfl) :
    DI X (.Tuple elts kk tpos) (.Call (.Name "zip" p) [e, e2] [] pos) (dZpI τs) := piI (pi_zpS hg hm ha hs hpl) fun σ H Q ⟨G0, Γ, T, F, Kt, R1, k, q⟩ => ⟨G0, Γ, T, F, _, R1, k, fun os Γ1 vs H1 k1 hl R2 => by
  obtain ⟨ds, Γ2, k2, l2, R3⟩ := Rel.escapes hl R2 k1
  match ds, vs, l2, k2, R3 with
  | [d, e'], [v, w], _, k2, R3 =>
    have k2 : (match itemsOf d, itemsOf e' with | some (_, xs), some (_, ys) => Kt (min xs.length ys.length) (fun i => .tuple [xs.getD i .none, ys.getD i .none]) Γ2 | _, _ => False) := k2
    cases hi : itemsOf d with
    | none => rw [hi] at k2; exact k2.elim
    | some p =>
      obtain ⟨kd, xs⟩ := p
      cases hj : itemsOf e' with
      | none => rw [hi, hj] at k2; exact k2.elim
      | some p' =>
        obtain ⟨ke, ys⟩ := p'
        rw [hi, hj] at k2
        obtain ⟨a, us, rfl, hq, _, _⟩ := R.seq R3.r hi
        have R4 : Rel X.K G0 ((w, .fz e') :: T) ((.ref a, .fz d) :: F) σ H1 Γ2 := Rel.toF (T := (w, .fz e') :: T) R3
        obtain ⟨b, us2, rfl, hq2, _, _⟩ := R.seq R4.r hj
        have R5 := R4.toF
        refine ⟨kd, ke, a, b, rfl, ⟨us, hq⟩, ⟨us2, hq2⟩, q _ _ _ _ [(.ref a, .fz d), (.ref b, .fz e')] _ k2 (feeds_zip hi hj) ⟨R5.fit, R5.al, R5.r.perm ?_⟩⟩
        exact (List.Perm.append_left _ (List.Perm.append_left _ (.swap _ _ _)))
  | [], _, _, k2, _ => exact k2.elim
  | [_], _, _, k2, _ => exact k2.elim
  | _ :: _ :: _ :: _, _, _, k2, _ => exact k2.elim⟩
end
end Dl
end
section
namespace Dl
open PySem PySem.Spec PyProof.Rows L2
structure DEnds where
  nx : Gm → Prop
  rt : O → Gm → Prop
  bk : Gm → Prop := fun _ => False
  ct : Gm → Prop := fun _ => False
abbrev TSd := DEnds → Gm → Prop
structure Leads (K : PySem.W.Frag) (G0 : Hp) (F : Ent) (E : DEnds) (D : Ends) : Prop where
  nx : ∀ Γ σ H, E.nx Γ → Rel K G0 [] F σ H Γ → D.nx σ H
  rt : ∀ o Γ v σ H, (∀ i, o ≠ .al i) → E.rt o Γ → Rel K G0 [(v, o)] F σ H Γ → D.rt v H
  bk : ∀ Γ σ H, E.bk Γ → Rel K G0 [] F σ H Γ → D.bk σ H
  ct : ∀ Γ σ H, E.ct Γ → Rel K G0 [] F σ H Γ → D.ct σ H
def liftS (K : PySem.W.Frag) (τ : TSd) : TS := fun D σ H => ∃ G0 Γ F E, Rel K G0 [] F σ H Γ ∧ τ E Γ ∧ Leads K G0 F E D
abbrev DS (X : Cx) (st : Stmt) (τ : TSd) : Prop := PS X st (liftS X.K τ)
abbrev DSs (X : Cx) (st : List Stmt) (τ : TSd) : Prop := PSs X st (liftS X.K τ)
/-- the value at hand, its own name frozen where it is but another name -/
def fix1 (Γ : Gm) (o : O) (k : O → Gm → Prop) : Prop := match o with
  | .al i => esc Γ (.al i) fun d Γ1 => k (.fz d) Γ1
  | o => k o Γ
def fixN : Gm → List O → (List O → Gm → Prop) → Prop
  | Γ, [], k => k [] Γ
  | Γ, o :: os, k => fix1 Γ o fun o1 Γ1 => fixN Γ1 os fun o2 Γ2 => k (o1 :: o2) Γ2
section
variable {K : PySem.W.Frag} {G0 H H' : Hp} {T F S : Ent} {σ σ' : Sl} {Γ : Gm} {v w : V} {o p : O} {d e : PyData} {i : Nat} {ds es : List PyData}
theorem Rel.toF' (r : Rel K G0 ((v, o) :: T) F σ H Γ) : Rel K G0 T ((v, o) :: F) σ H Γ := ⟨r.fit, r.al.tail, r.r.perm (by
  rw [List.cons_append]
  have q : (T ++ (ents σ Γ ++ (v, o) :: F)).Perm ((v, o) :: (T ++ (ents σ Γ ++ F))) := by
    rw [← List.append_assoc, ← List.append_assoc]
    exact List.perm_middle
  exact q.symm)⟩
theorem Rel.ofF' (n : ∀ i, o ≠ .al i) (r : Rel K G0 T ((v, o) :: F) σ H Γ) : Rel K G0 ((v, o) :: T) F σ H Γ := ⟨r.fit, r.al.cons n, r.r.perm (by
  rw [List.cons_append]
  have q : (T ++ (ents σ Γ ++ (v, o) :: F)).Perm ((v, o) :: (T ++ (ents σ Γ ++ F))) := by
    rw [← List.append_assoc, ← List.append_assoc]
    exact List.perm_middle
  exact q)⟩
theorem Rel.fixed {k : O → Gm → Prop} (r : Rel K G0 ((v, o) :: T) F σ H Γ) (h : fix1 Γ o k) : ∃ o' Γ', k o' Γ' ∧ (∀ i, o' ≠ .al i) ∧ Rel K G0 ((v, o') :: T) F σ H Γ' := by
  cases o with
  | al i =>
    obtain ⟨d, Γ', h1, h2⟩ := r.escape (k := fun d Γ1 => k (.fz d) Γ1) h
    exact ⟨_, Γ', h1, (fun _ z => nomatch z), h2⟩
  | fz d => exact ⟨_, Γ, h, (fun _ z => nomatch z), r⟩
  | own ds => exact ⟨_, Γ, h, (fun _ z => nomatch z), r⟩
  | ol _ => exact ⟨_, Γ, h, (fun _ z => nomatch z), r⟩
  | box _ _ => exact ⟨_, Γ, h, (fun _ z => nomatch z), r⟩
  | any => exact ⟨_, Γ, h, (fun _ z => nomatch z), r⟩
  | dct _ => exact ⟨_, Γ, h, (fun _ z => nomatch z), r⟩
  | ob _ => exact ⟨_, Γ, h, (fun _ z => nomatch z), r⟩
theorem Rel.fixedN : ∀ {vs : List V} {os : List O} {k : List O → Gm → Prop} {Γ : Gm} {T F : Ent}, vs.length = os.length → Rel K G0 (vs.zip os ++ T) F σ H Γ → fixN Γ os k →
    ∃ os' Γ', k os' Γ' ∧ vs.length = os'.length ∧ (∀ o ∈ os', ∀ i, o ≠ .al i) ∧ Rel K G0 (vs.zip os' ++ T) F σ H Γ'
  | [], [], k, Γ, T, F, _, r, h => ⟨[], Γ, h, rfl, (fun o m => by simp at m), r⟩
  | v :: vs, o :: os, k, Γ, T, F, e, r, h => by
    obtain ⟨o1, Γ1, h1, n1, r1⟩ := Rel.fixed (T := vs.zip os ++ T) r h
    obtain ⟨os2, Γ2, h2, l2, n2, r2⟩ := Rel.fixedN (Nat.succ.inj e) r1.toF' h1
    refine ⟨o1 :: os2, Γ2, h2, congrArg (· + 1) l2, fun o m => ?_, r2.ofF' n1⟩
    rcases List.mem_cons.mp m with z | z
    · rw [z]; exact n1
    · exact n2 o z
  | [], _ :: _, _, _, _, _, e, _, _ => by cases e
  | _ :: _, [], _, _, _, _, e, _, _ => by cases e
theorem put_far : ∀ {Γ : Gm} {i : Nat} {o : Option O}, Γ.length ≤ i → put Γ i o = Γ
  | [], _, _, _ => rfl
  | x :: Γ, 0, _, h => by simp at h
  | x :: Γ, i + 1, o, h => congrArg (x :: ·) (put_far (Γ := Γ) (by simpa using h))
theorem fit_none : ∀ {σ : Sl} {Γ : Gm} {i : Nat}, Fit σ Γ → Fit σ (put Γ i none) ∧ ∃ M, (ents σ Γ).Perm (M ++ ents σ (put Γ i none))
  | [], [], _, _ => ⟨trivial, [], .refl _⟩
  | none :: σ, none :: Γ, 0, f => ⟨f, [], .refl _⟩
  | some w :: σ, none :: Γ, 0, f => ⟨f, [], .refl _⟩
  | some w :: σ, some u :: Γ, 0, f => ⟨f, [(w, u)], .refl _⟩
  | none :: σ, none :: Γ, i + 1, f => fit_none (σ := σ) (Γ := Γ) (i := i) f
  | some w :: σ, none :: Γ, i + 1, f => fit_none (σ := σ) (Γ := Γ) (i := i) f
  | some w :: σ, some u :: Γ, i + 1, f => by
    obtain ⟨h1, M, h2⟩ := fit_none (σ := σ) (Γ := Γ) (i := i) f
    exact ⟨h1, M, (h2.cons (w, u)).trans (List.perm_middle).symm⟩
  | none :: _, some _ :: _, _, f => f.elim
  | [], _ :: _, _, f => f.elim
  | none :: _, [], _, f => f.elim
  | some _ :: _, [], _, f => f.elim
/-- what slot i held is forgotten -/
theorem Rel.forget (i : Nat) (r : Rel K G0 T F σ H Γ) : Rel K G0 T F σ H (put Γ i none) := by
  obtain ⟨h1, M, h2⟩ := fit_none (i := i) r.fit
  refine ⟨h1, r.al, ?_⟩
  have q : (T ++ (ents σ Γ ++ F)).Perm (M ++ (T ++ (ents σ (put Γ i none) ++ F))) := by
    refine (List.Perm.append_left T (h2.append_right F)).trans ?_
    rw [List.append_assoc, ← List.append_assoc T M, ← List.append_assoc M T]
    exact (List.perm_append_comm).append_right _
  exact R.dropL (r.r.perm q)
/-- a store into slot i -/
theorem Rel.store (r : Rel K G0 [] ((v, o) :: F) σ H Γ) : Rel K G0 [] F (σ.set i (some v)) H (put Γ i (some o)) := by
  have hl := r.fit.len
  by_cases hi : i < Γ.length
  · have r1 := r.forget i
    obtain ⟨q1, q2⟩ := ents_in (v := v) (o := o) (i := i) r.fit hi
    refine ⟨q2, fun _ _ m => by simp at m, r1.r.perm ?_⟩
    show (ents σ (put Γ i none) ++ (v, o) :: F).Perm (ents (σ.set i (some v)) (put Γ i (some o)) ++ F)
    exact (List.perm_middle).trans (q1.symm.append_right F)
  · have e1 : put Γ i (some o) = Γ := put_far (Nat.le_of_not_lt hi)
    have e2 : σ.set i (some v) = σ := by rw [List.set_eq_of_length_le (by omega)]
    rw [e1, e2]
    refine ⟨r.fit, fun _ _ m => by simp at m, ?_⟩
    have q : (ents σ Γ ++ (v, o) :: F).Perm ((v, o) :: (ents σ Γ ++ F)) := List.perm_middle
    exact R.tail (r.r.perm q)
theorem Rel.swapF {x y : V × O} (r : Rel K G0 T (x :: y :: F) σ H Γ) : Rel K G0 T (y :: x :: F) σ H Γ := ⟨r.fit, r.al, r.r.perm (List.Perm.append_left T (List.Perm.append_left _ (.swap _ _ _)))⟩
theorem Rel.dropF (r : Rel K G0 T (S ++ F) σ H Γ) : Rel K G0 T F σ H Γ := by
  refine ⟨r.fit, r.al, ?_⟩
  have q1 : (ents σ Γ ++ (S ++ F)).Perm (S ++ (ents σ Γ ++ F)) := by
    rw [← List.append_assoc, ← List.append_assoc]
    exact List.perm_append_comm.append_right F
  have q : (T ++ (ents σ Γ ++ (S ++ F))).Perm (S ++ (T ++ (ents σ Γ ++ F))) := by
    have q2 : ∀ M : Ent, (T ++ (S ++ M)).Perm (S ++ (T ++ M)) := fun M => by
      rw [← List.append_assoc, ← List.append_assoc]
      exact List.perm_append_comm.append_right M
    exact (q1.append_left T).trans (q2 _)
  exact R.dropL (r.r.perm q)
end
section
variable {X : Cx} {st : Stmt} {rest : List Stmt} {t u : TSd} {τ : TEd} {τs : TAd} {τt : TTd} {pos : Pos} {e : Expr}
def dNext : TSd := fun E Γ => E.nx Γ
def dSeq (t u : TSd) : TSd := fun E Γ => t { E with nx := u E } Γ
theorem ds_nil : DSs X [] dNext := pssI pss_nil fun D σ H ⟨G0, Γ, F, E, R1, k, q⟩ => q.nx Γ σ H k R1
theorem ds_cons (h1 : DS X st t) (h2 : DSs X rest u) : DSs X (st :: rest) (dSeq t u) := pssI (pss_cons h1 h2) fun D σ H ⟨G0, Γ, F, E, R1, k, q⟩ =>
  ⟨G0, Γ, F, { E with nx := u E }, R1, k, ⟨fun Γ1 σ1 H1 k1 R2 => ⟨G0, Γ1, F, E, R2, k1, q⟩, q.rt, q.bk, q.ct⟩⟩
theorem ds_single (h1 : DS X st t) : DSs X [st] t := pss_one h1
def dBreak : TSd := fun E Γ => E.bk Γ
def dCont : TSd := fun E Γ => E.ct Γ
def dExpr (τ : TEd) : TSd := fun E Γ => τ Γ fun _ Γ1 => E.nx Γ1
theorem ds_expr (he : DE X e τ) (hs : swapsWith e none pos.line X.env = pure false := by rfl) : DS X (.Expr e pos) (dExpr τ) := psI (ps_expr he hs) fun D σ H ⟨G0, Γ, F, E, R1, k, q⟩ =>
  ⟨G0, Γ, [], F, _, R1, k, fun o Γ1 v H1 k1 R2 => q.nx Γ1 σ H1 k1 R2.drop⟩
def dRet (τ : TEd) : TSd := fun E Γ => τ Γ fun o Γ1 => mov Γ1 o E.rt
theorem ds_ret (he : DE X e τ) : DS X (.Return (some e) pos) (dRet τ) := psI (ps_ret he) fun D σ H ⟨G0, Γ, F, E, R1, k, q⟩ =>
  ⟨G0, Γ, [], F, _, R1, k, fun o Γ1 v H1 k1 R2 => by
    obtain ⟨o', Γ', h1, n1, R3⟩ := R2.moved k1
    exact q.rt o' Γ' v σ H1 n1 h1 R3⟩
def dRetN : TSd := fun E Γ => E.rt (.fz .none) Γ
def dIfS (c : TTd) (t u : TSd) : TSd := fun E Γ => c Γ fun b Γ1 => (b = true → t E Γ1) ∧ (b = false → u E Γ1)
theorem ds_if {c : Expr} {a b : List Stmt} (hc : DT X c τt) (ha : DSs X a t) (hb : DSs X b u) : DS X (.If c a b pos) (dIfS τt t u) := psI (ps_if hc ha hb) fun D σ H ⟨G0, Γ, F, E, R1, k, q⟩ =>
  ⟨G0, Γ, [], F, _, R1, k, fun c Γ1 H1 k1 R2 => by
    cases c with
    | true => rw [if_pos rfl]; exact ⟨G0, Γ1, F, E, R2, k1.1 rfl, q⟩
    | false => rw [if_neg (by decide)]; exact ⟨G0, Γ1, F, E, R2, k1.2 rfl, q⟩⟩
/-- name = e -/
def dSet (i : Nat) (τ : TEd) : TSd := fun E Γ => τ Γ fun o Γ1 => fix1 Γ1 o fun o1 Γ2 => E.nx (put Γ2 i (some o1))
theorem ds_set (i : Nat) {x : Str} {pos' : Pos} (hN : X.N.Nodup) (he : DE X e τ) (hi : X.N[i]? = some x := by rfl) (hx : Loc X.env.scope x := by first | exact Or.inl rfl | exact Or.inr rfl) (hs : swapsWith e (some (.Name x pos')) pos.line X.env = pure false := by rfl) (hf : X.fn x = true ∨ X.env.scope.names.lookup x = some .local := by first | exact .inl rfl | exact .inr rfl) :
    DS X (.Assign [.Name x pos'] e pos) (dSet i τ) := psI (ps_set (i := i) hN hi hx he hs hf) fun D σ H ⟨G0, Γ, F, E, R1, k, q⟩ =>
  ⟨G0, Γ, [], F, _, R1, k, fun o Γ1 v H1 k1 R2 => by
    obtain ⟨o', Γ', h1, n1, R3⟩ := R2.fixed k1
    exact q.nx _ _ H1 h1 R3.toF'.store⟩
/-- a, b = e1, e2 -/
def putN : Gm → List Nat → List O → Gm
  | Γ, i :: is, o :: os => putN (put Γ i (some o)) is os
  | Γ, _, _ => Γ
def dMulti (is : List Nat) (τs : TAd) : TSd := fun E Γ => τs Γ fun os Γ1 => os.length = is.length ∧ fixN Γ1 os fun o1 Γ2 => E.nx (putN Γ2 is o1)
theorem ds_par (i j : Nat) {x y : Str} {a b : Expr} {px py pt : Pos} {kt k2 pt2} (hN : X.N.Nodup) (ha : DA X [a, b] τs) (hc : X.calm = true := by rfl) (hi : X.N[i]? = some x := by rfl) (hj : X.N[j]? = some y := by rfl) (hij : i ≠ j := by decide)
    (hx : X.env.scope.names.lookup x = some .local := by rfl) (hy : X.env.scope.names.lookup y = some .local := by rfl)
    (hw : swappedStores [.Tuple [.Name x px, .Name y py] kt pt] (.Tuple [a, b] k2 pt2) X.env = pure (some [x, y]) := by rfl)
    (hs : swapsWithSole [.Tuple [.Name x px, .Name y py] kt pt] (.Tuple [a, b] k2 pt2) pos.line X.env = pure false := by rfl) :
    DS X (.Assign [.Tuple [.Name x px, .Name y py] kt pt] (.Tuple [a, b] k2 pt2) pos) (dMulti [i, j] τs) := psI (ps_par hc hN hi hj hij hx hy ha hw hs) fun D σ H ⟨G0, Γ, F, E, R1, k, q⟩ =>
  ⟨G0, Γ, [], F, _, R1, k, fun os Γ1 vs H1 ⟨hl2, k1⟩ hl R2 => by
    obtain ⟨os', Γ', h1, l1, n1, R3⟩ := Rel.fixedN hl R2 k1
    match vs, os', l1, h1, n1, R3, (show vs.length = 2 from hl.trans hl2) with
    | [v, w], [o1, o2], _, h1, n1, R3, _ =>
      exact ⟨v, w, rfl, q.nx _ _ H1 h1 (Rel.toF' (Rel.toF' (T := [(w, o2)]) R3)).swapF.store.store⟩⟩
theorem ds_par3 (i j l : Nat) {x y z : Str} {a b c : Expr} {px py pz pt : Pos} {kt k2 pt2} (hN : X.N.Nodup) (ha : DA X [a, b, c] τs) (hc : X.calm = true := by rfl) (hi : X.N[i]? = some x := by rfl) (hj : X.N[j]? = some y := by rfl) (hl' : X.N[l]? = some z := by rfl) (hij : i ≠ j := by decide) (hil : i ≠ l := by decide) (hjl : j ≠ l := by decide)
    (hx : X.env.scope.names.lookup x = some .local := by rfl) (hy : X.env.scope.names.lookup y = some .local := by rfl) (hz : X.env.scope.names.lookup z = some .local := by rfl)
    (hw : swappedStores [.Tuple [.Name x px, .Name y py, .Name z pz] kt pt] (.Tuple [a, b, c] k2 pt2) X.env = pure (some [x, y, z]) := by rfl)
    (hs : swapsWithSole [.Tuple [.Name x px, .Name y py, .Name z pz] kt pt] (.Tuple [a, b, c] k2 pt2) pos.line X.env = pure false := by rfl) :
    DS X (.Assign [.Tuple [.Name x px, .Name y py, .Name z pz] kt pt] (.Tuple [a, b, c] k2 pt2) pos) (dMulti [i, j, l] τs) := psI (ps_par3 hc hN hi hj hl' hij hil hjl hx hy hz ha hw hs) fun D σ H ⟨G0, Γ, F, E, R1, k, q⟩ =>
  ⟨G0, Γ, [], F, _, R1, k, fun os Γ1 vs H1 ⟨hl2, k1⟩ hl R2 => by
    obtain ⟨os', Γ', h1, l1, n1, R3⟩ := Rel.fixedN hl R2 k1
    match vs, os', l1, h1, n1, R3, (show vs.length = 3 from hl.trans hl2) with
    | [u, v, w], [o1, o2, o3], _, h1, n1, R3, _ =>
      have R4 := Rel.toF' (T := [(v, o2), (w, o3)]) R3
      have R5 := Rel.toF' (T := [(w, o3)]) R4
      have R6 := Rel.toF' (T := []) R5
      have R7 : Rel X.K G0 [] ((u, o1) :: (v, o2) :: (w, o3) :: F) σ H1 Γ' := ⟨R6.fit, R6.al, R6.r.perm (List.Perm.append_left (ents σ Γ') (((List.Perm.swap _ _ _).cons _).trans ((List.Perm.swap _ _ _).trans ((List.Perm.swap _ _ _).cons _))))⟩
      exact ⟨u, v, w, rfl, q.nx _ _ H1 h1 R7.store.store.store⟩⟩
end
end Dl
end
section
namespace Dl
open PySem PySem.Spec PyProof.Rows L2
def Agree (ws : List Nat) (σ σ' : Sl) : Prop := σ'.length = σ.length ∧ ∀ j, j ∉ ws → σ'[j]? = σ[j]?
abbrev TGd := PyData → Gm → (Gm → Prop) → Prop
abbrev TGsd := List PyData → Gm → (Gm → Prop) → Prop
def liftG (K : PySem.W.Frag) (ws : List Nat) (γ : TGd) : TG := fun v σ H Q => ∃ G0 Γ F d Kt, Rel K G0 [] ((v, .fz d) :: F) σ H Γ ∧ γ d Γ Kt ∧ ∀ Γ' σ' H', Kt Γ' → Agree ws σ σ' → Rel K G0 [] F σ' H' Γ' → Q σ' H'
def liftGs (K : PySem.W.Frag) (ws : List Nat) (γ : TGsd) : TGs := fun vs σ H Q => ∃ G0 Γ F ds Kt, vs.length = ds.length ∧ Rel K G0 [] (fzs vs ds ++ F) σ H Γ ∧ γ ds Γ Kt ∧ ∀ Γ' σ' H', Kt Γ' → Agree ws σ σ' → Rel K G0 [] F σ' H' Γ' → Q σ' H'
abbrev DG (X : Cx) (tg : Expr) (ws : List Nat) (γ : TGd) : Prop := PG X tg (liftG X.K ws γ)
abbrev DGs (X : Cx) (ts : List Expr) (ws : List Nat) (γ : TGsd) : Prop := PGs X ts (liftGs X.K ws γ)
theorem pgI {X : Cx} {e : Expr} {t t' : TG} (h : PG X e t) (f : ∀ v σ H Q, t' v σ H Q → t v σ H Q) : PG X e t' := ⟨fun pins s σ H v u Q I r q => h.run pins s σ H v u Q I r (f v σ H Q q)⟩
theorem pgsI {X : Cx} {e : List Expr} {t t' : TGs} (h : PGs X e t) (f : ∀ v σ H Q, t' v σ H Q → t v σ H Q) : PGs X e t' := ⟨fun pins s σ H v u Q I r q => h.run pins s σ H v u Q I r (f v σ H Q q)⟩
theorem pg_or {X : Cx} {e : Expr} {t t' : TG} (h : PG X e t) (h' : PG X e t') : PG X e (fun v σ H Q => t v σ H Q ∨ t' v σ H Q) :=
  ⟨fun pins s σ H v u Q I r q => q.elim (fun z => h.run pins s σ H v u Q I r z) fun z => h'.run pins s σ H v u Q I r z⟩
theorem Agree.refl {ws : List Nat} {σ : Sl} : Agree ws σ σ := ⟨rfl, fun _ _ => rfl⟩
section
variable {X : Cx} {pos : Pos} {e : Expr} {es : List Expr} {w1 w2 : List Nat} {γ : TGd} {γs : TGsd}
def gdName (i : Nat) : TGd := fun d Γ Kt => Kt (put Γ i (some (.fz d)))
theorem dg_name (i : Nat) {x : Str} (hN : X.N.Nodup) (hi : X.N[i]? = some x := by rfl) (hx : Loc X.env.scope x := by first | exact Or.inl rfl | exact Or.inr rfl) (hf : X.fn x = true ∨ X.env.scope.names.lookup x = some .local := by first | exact .inl rfl | exact .inr rfl) : DG X (.Name x pos) [i] (gdName i) :=
  pgI (pg_name hN hi hx hf) fun v σ H Q ⟨G0, Γ, F, d, Kt, R1, k, q⟩ => q _ _ H k ⟨by rw [List.length_set], fun j hj => List.getElem?_set_ne (fun z => hj (by simp [z]))⟩ R1.store
def gdNil : TGsd := fun ds Γ Kt => match ds with
  | [] => Kt Γ
  | _ :: _ => False
def gdCons (t : TGd) (u : TGsd) : TGsd := fun ds Γ Kt => match ds with
  | d :: r => t d Γ fun Γ1 => u r Γ1 Kt
  | [] => False
theorem dgs_nil : DGs X [] [] gdNil := pgsI pgs_nil fun vs σ H Q ⟨G0, Γ, F, ds, Kt, hl, R1, k, q⟩ => by
  match ds, vs, hl with
  | [], [], _ => exact ⟨rfl, q Γ σ H k .refl R1⟩
  | _ :: _, _ :: _, _ => exact k.elim
theorem dgs_cons (h1 : DG X e w1 γ) (h2 : DGs X es w2 γs) (hs : (assignEach (e :: es) X.env).map (·.2) = assign e X.env :: (assignEach es X.env).map (·.2) := by rfl) : DGs X (e :: es) (w1 ++ w2) (gdCons γ γs) :=
  pgsI (pgs_cons h1 h2 hs) fun vs σ H Q ⟨G0, Γ, F, ds, Kt, hl, R1, k, q⟩ => by
    cases ds with
    | nil => exact k.elim
    | cons d ds =>
      obtain ⟨v, vs, rfl⟩ : ∃ v r, vs = v :: r := by
        cases vs with
        | nil => cases hl
        | cons v r => exact ⟨v, r, rfl⟩
      refine ⟨v, vs, rfl, G0, Γ, fzs vs ds ++ F, d, _, R1, k, fun Γ1 σ1 H1 k1 a1 R2 => ⟨G0, Γ1, F, ds, _, Nat.succ.inj hl, R2, k1, fun Γ2 σ2 H2 k2 a2 R3 => q Γ2 σ2 H2 k2 ⟨a2.1.trans a1.1, fun j hj => ?_⟩ R3⟩⟩
      rw [List.mem_append, not_or] at hj
      exact (a2.2 j hj.2).trans (a1.2 j hj.1)
def gdTup (n : Nat) (t : TGsd) : TGd := fun d Γ Kt => match itemsOf d with
  | some (_, ds) => ds.length = n ∧ t ds Γ Kt
  | none => False
theorem dg_tup {k n : Nat} (h : DGs X es w1 γs) (hc : X.calm = true := by rfl) (hn : (assignEach es X.env).length = n := by rfl) (hst : (assignEach es X.env).findIdx? (·.1) = none := by rfl) : DG X (.Tuple es k pos) w1 (gdTup n γs) :=
  pgI (pg_or (pg_tup hc h hn hst) (pg_unl hc h hn hst)) fun v σ H Q ⟨G0, Γ, F, d, Kt, R1, k, q⟩ => by
    have k : (match itemsOf d with | some (_, ds) => ds.length = n ∧ γs ds Γ Kt | none => False) := k
    cases hi : itemsOf d with
    | none => rw [hi] at k; exact k.elim
    | some p =>
      obtain ⟨kd, ds⟩ := p
      rw [hi] at k
      have R2 := Rel.ofF' (T := []) (o := .fz d) (fun _ z => nomatch z) R1
      obtain ⟨a, vs, rfl, hq, hl, r3⟩ := R.seq R2.r hi
      have R3 : Rel X.K G0 [] (fzs vs ds ++ F) σ H Γ := ⟨R1.fit, R1.al, (R.perm r3 (by
        have q : (fzs vs ds ++ ((V.ref a, O.fz d) :: ([] ++ (ents σ Γ ++ F)))).Perm ((V.ref a, O.fz d) :: (ents σ Γ ++ (fzs vs ds ++ F))) := by
          refine List.perm_middle.trans (List.Perm.cons _ ?_)
          rw [List.nil_append, ← List.append_assoc, ← List.append_assoc]
          exact List.perm_append_comm.append_right F
        exact q)).tail⟩
      have out : liftGs X.K w1 γs vs σ H Q := ⟨G0, Γ, F, ds, Kt, hl, R3, k.2, q⟩
      cases kd with
      | true => exact .inr ⟨a, vs, rfl, hq, hl.trans k.1, out⟩
      | false => exact .inl ⟨a, vs, rfl, hq, hl.trans k.1, out⟩
variable {tg iter : Expr} {body : List Stmt} {τi : TId} {tb : TSd}
def dFor (τi : TId) (γ : TGd) (tb : TSd) : TSd := fun E Γ => τi Γ fun n it Γ1 => ∃ Iv : Nat → Gm → Prop, Iv 0 Γ1 ∧
  (∀ i Γ2, i < n → Iv i Γ2 → γ (it i) Γ2 fun Γ3 => tb { E with nx := Iv (i + 1), ct := Iv (i + 1), bk := E.nx } Γ3) ∧ ∀ Γ2, Iv n Γ2 → E.nx Γ2
theorem ds_for (hi : DI X tg iter τi) (hg : DG X tg w1 γ) (hb : DSs X body tb) (hp : PassesOwn (model X.prog X.w) X.A X.env X.xe := by exact PassesOwn.never) (hc : X.calm = true := by rfl)
    (hs : ∀ x, foldedSetIterable iter X.env x = pure x := by intro _; rfl) : DS X (.For tg iter body [] pos) (dFor τi γ tb) := psI (ps_for hp hc hi hg hb hs) fun D σ H ⟨G0, Γ, F, E, R1, k, q⟩ =>
  ⟨G0, Γ, [], F, _, R1, k, fun n it Γ1 J S H1 ⟨Iv, i0, is, ie⟩ fd R2 => by
    have ld : Leads X.K G0 (S ++ F) E D := ⟨fun Γ σ H k r => q.nx Γ σ H k r.dropF, fun o Γ v σ H n k r => q.rt o Γ v σ H n k r.dropF, fun Γ σ H k r => q.bk Γ σ H k r.dropF, fun Γ σ H k r => q.ct Γ σ H k r.dropF⟩
    have rS : ∀ {σ H Γ}, Rel X.K G0 [] (S ++ F) σ H Γ → R X.K G0 H (S ++ (ents σ Γ ++ F)) := fun {σ H Γ} r => r.r.perm (by
      rw [List.nil_append, ← List.append_assoc, ← List.append_assoc]
      exact List.perm_append_comm.append_right F)
    refine ⟨fun i m σ H => m = n - i ∧ i ≤ n ∧ ∃ Γ, Iv i Γ ∧ Rel X.K G0 [] (S ++ F) σ H Γ, ⟨n, rfl, Nat.zero_le _, Γ1, i0, R2⟩, ?_⟩
    rintro i m σ2 H2 ⟨rfl, hle, Γ2, iv, R3⟩
    by_cases hlt : i < n
    · obtain ⟨g1, g2⟩ := fd.step (rS R3) hlt
      refine .inr ⟨g1, fun σ' H' => ∃ Γ', Iv (i + 1) Γ' ∧ Rel X.K G0 [] (S ++ F) σ' H' Γ', fun σ' H' h => ⟨n - (i + 1), by omega, rfl, hlt, h⟩, fun x H' hy => ?_⟩
      have r4 := g2 x H' hy
      have R4 : Rel X.K G0 [] ((x, .fz (it i)) :: (S ++ F)) σ2 H' Γ2 := ⟨R3.fit, R3.al, r4.perm (by
        have q : (S ++ (ents σ2 Γ2 ++ F)).Perm (ents σ2 Γ2 ++ (S ++ F)) := by
          rw [← List.append_assoc, ← List.append_assoc]
          exact List.perm_append_comm.append_right F
        exact (q.cons _).trans List.perm_middle.symm)⟩
      refine ⟨G0, Γ2, S ++ F, it i, _, R4, is i Γ2 hlt iv, fun Γ3 σ3 H3 k3 _ R5 => ⟨G0, Γ3, S ++ F, _, R5, k3, ⟨fun Γ σ H k r => ⟨Γ, k, r⟩, ld.rt, ld.nx, fun Γ σ H k r => ⟨Γ, k, r⟩⟩⟩⟩
    · obtain rfl : i = n := by omega
      exact .inl ⟨fd.stop (rS R3), ld.nx Γ2 σ2 H2 (ie Γ2 iv) R3⟩⟩
variable {c : Expr} {τt : TTd}
def dWhile (τt : TTd) (tb : TSd) : TSd := fun E Γ => ∃ Iv : Nat → Gm → Prop, (∃ m, Iv m Γ) ∧ ∀ m Γ1, Iv m Γ1 → τt Γ1 fun b Γ2 => (b = true → tb { E with nx := fun Γ3 => ∃ m', m' < m ∧ Iv m' Γ3, ct := fun Γ3 => ∃ m', m' < m ∧ Iv m' Γ3, bk := E.nx } Γ2) ∧ (b = false → E.nx Γ2)
theorem ds_while (hc : DT X c τt) (hb : DSs X body tb) (hp : PassesOwn (model X.prog X.w) X.A X.env X.xe := by exact PassesOwn.never) : DS X (.While c body [] pos) (dWhile τt tb) := psI (ps_while hp hc hb) fun D σ H ⟨G0, Γ, F, E, R1, ⟨Iv, ⟨m0, i0⟩, is⟩, q⟩ => by
  refine ⟨fun m σ H => ∃ Γ, Iv m Γ ∧ Rel X.K G0 [] F σ H Γ, ⟨m0, Γ, i0, R1⟩, ?_⟩
  rintro m σ2 H2 ⟨Γ2, iv, R2⟩
  refine ⟨G0, Γ2, [], F, _, R2, is m Γ2 iv, fun b Γ3 H3 k3 R3 => ?_⟩
  cases b with
  | false => exact q.nx Γ3 σ2 H3 (k3.2 rfl) R3
  | true => exact ⟨fun σ' H' => ∃ m', m' < m ∧ ∃ Γ', Iv m' Γ' ∧ Rel X.K G0 [] F σ' H' Γ', fun σ' H' h => h, G0, Γ3, F, _, R3, k3.1 rfl, ⟨fun Γ σ H ⟨m', h1, h2⟩ r => ⟨m', h1, Γ, h2, r⟩, q.rt, q.nx, fun Γ σ H ⟨m', h1, h2⟩ r => ⟨m', h1, Γ, h2, r⟩⟩⟩
end
end Dl
end
section
namespace Dl
open PySem PySem.Spec PyProof.Rows L2
/-- a def of data: its arguments stand still -/
def spP (K : PySem.W.Frag) (n : Nat) (φ : List PyData → (O → Prop) → Prop) : Sp := fun vs H Q _ => ∃ G0 ds F Kt, vs.length = ds.length ∧ ds.length = n ∧ R K G0 H (fzs vs ds ++ F) ∧ φ ds Kt ∧ ∀ o v H', Kt o → (∀ i, o ≠ .al i) → R K G0 H' ((v, o) :: F) → Q v H'
/-- a def that draws from the box, its first argument -/
def spB (K : PySem.W.Frag) (n : Nat) (φ : Nat → List PyData → (O → Nat → Prop) → Prop) : Sp := fun vs H Q _ => ∃ G0 p m ds vr F Kt, vs = .ref p :: vr ∧ vr.length = ds.length ∧ ds.length = n ∧ R K G0 H ((.ref p, .box p m) :: (fzs vr ds ++ F)) ∧ φ m ds Kt ∧
  ∀ o m' v H', Kt o m' → (∀ i, o ≠ .al i) → R K G0 H' ((v, o) :: (.ref p, .box p m') :: F) → Q v H'
def startG (N : List Str) (os : List O) : Gm := os.map some ++ List.replicate (N.length - os.length) none
section
variable {K : PySem.W.Frag} {G0 H H' : Hp} {T F S : Ent} {σ σ' : Sl} {Γ : Gm} {v w : V} {o p : O} {d e : PyData} {i : Nat} {ds es : List PyData}
theorem ents_none : ∀ (n : Nat), ents (List.replicate n none) (List.replicate n none) = [] ∧ Fit (List.replicate n none) (List.replicate n none)
  | 0 => ⟨rfl, trivial⟩
  | n + 1 => ents_none n
theorem ents_start {n : Nat} : ∀ {vs : List V} {os : List O}, vs.length = os.length → ents (vs.map some ++ List.replicate n none) (os.map some ++ List.replicate n none) = vs.zip os ∧ Fit (vs.map some ++ List.replicate n none) (os.map some ++ List.replicate n none)
  | [], [], _ => ents_none n
  | v :: vs, o :: os, h => by
    obtain ⟨h1, h2⟩ := ents_start (n := n) (Nat.succ.inj h)
    exact ⟨congrArg ((v, o) :: ·) h1, h2⟩
  | [], _ :: _, h => by cases h
  | _ :: _, [], h => by cases h
theorem fzs_zip : ∀ {vs : List V} {ds : List PyData}, fzs vs ds = vs.zip (ds.map .fz)
  | [], [] => rfl
  | [], _ :: _ => rfl
  | _ :: _, [] => rfl
  | v :: vs, d :: ds => congrArg (fun l => (v, O.fz d) :: l) (fzs_zip (vs := vs) (ds := ds))
end
section
variable {P : Program} {w : World} {K : PySem.W.Frag} {mg : Str → Option Value} {base : Heap}
theorem fnP {x qual : Str} {st : Stmt} {f : Addr} {fd : FuncData} {N ps : List Str} {k n : Nat} {φ : List PyData → (O → Prop) → Prop} (F : Fun K x qual st f fd) (S : FnScope N ps (defScope st)) (hn : ps.length = n)
    (hbody : ∀ (cdv : Value) (A : Around) (outer : List Env) (s : Shared) (H : Hp) (E : XK), Room k (A.deeper (envOfC qual (defScope st) s.heap.objs.size f cdv)) →
      ∃ τ, DSs (cxOf CX0 P w K mg base N qual (defScope st) f cdv A outer s H E).nox (defBody st) τ ∧ ∀ ds Kt, ds.length = n → φ ds Kt → τ { nx := fun _ => Kt (.fz .none), rt := fun o _ => Kt o } (startG N (ds.map .fz))) :
    FnOk P w K mg base CX0 (k + 1) f fd ps (spP K n φ) := by
  refine F.ok S (fun vs H Q E h => ?_) (fun cdv A outer s H vs Q E hr h => ?_)
  · obtain ⟨G0, ds, F, Kt, h1, h2, _⟩ := h
    rw [h1, h2, hn]
  · obtain ⟨τ, hτ, hq⟩ := hbody cdv A outer s H E hr
    obtain ⟨G0, ds, F, Kt, h1, h2, r, hφ, q⟩ := h
    refine ⟨_, hτ, ?_⟩
    obtain ⟨e1, e2⟩ := ents_start (n := N.length - vs.length) (vs := vs) (os := ds.map .fz) (by rw [List.length_map, h1])
    have e3 : startG N (ds.map .fz) = (ds.map O.fz).map some ++ List.replicate (N.length - vs.length) none := by
      unfold startG
      rw [List.length_map, h1]
    refine ⟨G0, startG N (ds.map .fz), F, _, ⟨?_, fun _ _ m => by simp at m, ?_⟩, hq ds Kt h2 hφ, ⟨fun Γ σ H' k1 r1 => ?_, fun o Γ v σ H' n1 k1 r1 => ?_, fun _ _ _ z => z.elim, fun _ _ _ z => z.elim⟩⟩
    · rw [e3]
      exact e2
    · rw [e3]
      show R K G0 H (ents (vs.map some ++ List.replicate (N.length - vs.length) none) _ ++ F)
      rw [e1, ← fzs_zip]
      exact r
    · have r2 : R K G0 H' (ents σ Γ ++ F) := r1.r
      exact q (.fz .none) .non H' k1 (fun _ z => nomatch z) (r2.dropL.add fun _ => .non)
    · have r2 : R K G0 H' ((v, o) :: (ents σ Γ ++ F)) := r1.r
      refine q o v H' k1 n1 (R.dropL (M := ents σ Γ) (r2.perm ?_))
      exact List.perm_middle.symm
theorem fnB {x qual : Str} {st : Stmt} {f : Addr} {fd : FuncData} {N ps : List Str} {k n : Nat} {φ : Nat → List PyData → (O → Nat → Prop) → Prop} (F : Fun K x qual st f fd) (S : FnScope N ps (defScope st)) (hn : ps.length = n + 1)
    (hbody : ∀ (cdv : Value) (A : Around) (outer : List Env) (s : Shared) (H : Hp) (E : XK), Room k (A.deeper (envOfC qual (defScope st) s.heap.objs.size f cdv)) →
      ∃ τ, DSs (cxOf CX0 P w K mg base N qual (defScope st) f cdv A outer s H E).nox (defBody st) τ ∧ ∀ p m ds Kt, ds.length = n → φ m ds Kt →
        τ { nx := fun Γ => ∃ m', get Γ 0 = some (.box p m') ∧ Kt (.fz .none) m', rt := fun o Γ => ∃ m', get Γ 0 = some (.box p m') ∧ Kt o m' } (startG N (.box p m :: ds.map .fz))) :
    FnOk P w K mg base CX0 (k + 1) f fd ps (spB K n φ) := by
  refine F.ok S (fun vs H Q E h => ?_) (fun cdv A outer s H vs Q E hr h => ?_)
  · obtain ⟨G0, p, m, ds, vr, F, Kt, rfl, h1, h2, _⟩ := h
    rw [List.length_cons, h1, h2, hn]
  · obtain ⟨τ, hτ, hq⟩ := hbody cdv A outer s H E hr
    obtain ⟨G0, p, m, ds, vr, F, Kt, rfl, h1, h2, r, hφ, q⟩ := h
    refine ⟨_, hτ, ?_⟩
    obtain ⟨e1, e2⟩ := ents_start (n := N.length - (vr.length + 1)) (vs := .ref p :: vr) (os := .box p m :: ds.map .fz) (by rw [List.length_cons, List.length_cons, List.length_map, h1])
    have e3 : startG N (.box p m :: ds.map .fz) = (O.box p m :: ds.map O.fz).map some ++ List.replicate (N.length - (vr.length + 1)) none := by
      unfold startG
      rw [List.length_cons, List.length_map, h1]
    refine ⟨G0, startG N (.box p m :: ds.map .fz), F, _, ⟨?_, fun _ _ m => by simp at m, ?_⟩, hq p m ds Kt h2 hφ, ⟨fun Γ σ H' ⟨m', g, k1⟩ r1 => ?_, fun o Γ v σ H' n1 ⟨m', g, k1⟩ r1 => ?_, fun _ _ _ z => z.elim, fun _ _ _ z => z.elim⟩⟩
    · rw [e3]
      exact e2
    · rw [e3]
      show R K G0 H (ents ((V.ref p :: vr).map some ++ List.replicate (N.length - (vr.length + 1)) none) _ ++ F)
      rw [e1]
      show R K G0 H ((.ref p, .box p m) :: (vr.zip (ds.map .fz) ++ F))
      rw [← fzs_zip]
      exact r
    · obtain ⟨u, _, r2, _⟩ := r1.out g
      obtain ⟨rfl, _⟩ := r2.draw
      have r3 : R K G0 H' ((.ref p, .box p m') :: F) := by
        have r3 : R K G0 H' ((.ref p, .box p m') :: (ents σ (put Γ 0 none) ++ F)) := r2
        refine R.dropL (M := ents σ (put Γ 0 none)) (r3.perm ?_)
        exact List.perm_middle.symm
      exact q (.fz .none) m' .non H' k1 (fun _ z => nomatch z) (r3.add fun _ => .non)
    · obtain ⟨u, _, r2, _⟩ := r1.out g
      obtain ⟨rfl, _⟩ := r2.draw
      refine q o m' v H' k1 n1 ?_
      have r3 : R K G0 H' ((.ref p, .box p m') :: (v, o) :: (ents σ (put Γ 0 none) ++ F)) := r2
      refine R.dropL (M := ents σ (put Γ 0 none)) (r3.perm ?_)
      exact (List.Perm.swap _ _ _).trans ((List.perm_middle.symm.cons _).trans List.perm_middle.symm)
end
section
variable {X : Cx} {CX : CXT} {k n : Nat} {f : Addr} {fd : FuncData} {ps : List Str} {x : Str} {p pos : Pos} {e : Expr} {es : List Expr} {τs : TAd} {φ : List PyData → (O → Prop) → Prop} {φb : Nat → List PyData → (O → Nat → Prop) → Prop}
def dCallP (n : Nat) (φ : List PyData → (O → Prop) → Prop) (t : TAd) : TEd := fun Γ Kt => t Γ fun os Γ1 => escs Γ1 os fun ds Γ2 => ds.length = n ∧ φ ds fun o => Kt o Γ2
theorem useP {G0 : Hp} {Γ : Gm} {T F : Ent} {σ : Sl} {H : Hp} {vs : List V} {os : List O} {Kt : O → Gm → Prop} {Q : VK} {E : XK} (hl : vs.length = os.length) (R2 : Rel X.K G0 (vs.zip os ++ T) F σ H Γ) (k1 : escs Γ os fun ds Γ2 => ds.length = n ∧ φ ds fun o => Kt o Γ2)
    (q : ∀ o Γ' v H', Kt o Γ' → Rel X.K G0 ((v, o) :: T) F σ H' Γ' → Q v H') : spP X.K n φ vs H Q E := by
  obtain ⟨ds, Γ2, ⟨h1, h2⟩, hl2, R3⟩ := Rel.escapes hl R2 k1
  refine ⟨G0, ds, T ++ (ents σ Γ2 ++ F), _, hl2, h1, ?_, h2, fun o v H' k2 n1 r => q o Γ2 v H' k2 ⟨R3.fit, ?_, r⟩⟩
  · have r := R3.r
    rw [List.append_assoc] at r
    exact r
  · refine AlOk.cons ?_ n1
    exact R2.al |> fun h => fun w j m => h w j (List.mem_append_right _ m)
theorem de_callP (Fo : FnOk X.prog X.w X.K X.mg X.base CX0 k f fd ps (spP X.K n φ)) (hr : Room k X.A) (hg : Gl X x) (hm : X.mg x = some (.ref f)) (hk : PySem.W.keepIn X.K (.ref f) = true) (hb : Binds X.K fd ps [])
    (ha : DA X (e :: es) τs) (hdb : (x == ("__debug__" : Str)) = false := by decide) (he : starEach (e :: es) X.env = (false, eval e X.env) :: starEach es X.env := by rfl) (hpl : (backTo pos (starEach es X.env)).any (·.1) = false := by rfl) :
    DE X (.Call (.Name x p) (e :: es) [] pos) (dCallP n φ τs) := peI (pe_call Fo hr hg hm hk hb .nil pass0 ha hdb he hpl) fun σ H Q ⟨G0, Γ, T, F, Kt, R1, k, q⟩ => ⟨G0, Γ, T, F, _, R1, k, fun os Γ1 vs H1 k1 hl R2 => by
  show spP X.K n φ (vs ++ []) H1 Q E0
  rw [List.append_nil]
  exact useP hl R2 k1 q⟩
/-- a def whose value is no object: what is one's own stays so -/
def isScal : O → Prop
  | .fz (.int _) => True
  | .fz (.bool _) => True
  | .fz (.str _) => True
  | .fz .none => True
  | _ => False
def vws : Gm → List O → (List PyData → Prop) → Prop
  | Γ, [], k => k []
  | Γ, o :: os, k => match vw Γ o with
    | some d => vws Γ os fun ds => k (d :: ds)
    | none => False
def dCallV (n : Nat) (φ : List PyData → (O → Prop) → Prop) (t : TAd) : TEd := fun Γ Kt => t Γ fun os Γ1 => vws Γ1 os fun ds => ds.length = n ∧ φ ds fun o => isScal o ∧ Kt o Γ1
theorem Rel.views {K : PySem.W.Frag} {G0 : Hp} {T F : Ent} {σ : Sl} {H : Hp} {Γ : Gm} : ∀ {vs : List V} {os : List O} {k : List PyData → Prop}, vs.length = os.length → Rel K G0 (vs.zip os ++ T) F σ H Γ → vws Γ os k → ∃ ds, k ds ∧ DqAll K H vs ds
  | [], [], k, _, r, h => ⟨[], h, .nil⟩
  | v :: vs, o :: os, k, hl, r, h => by
    have h : (match vw Γ o with | some d => vws Γ os fun ds => k (d :: ds) | none => False) := h
    cases q : vw Γ o with
    | none => rw [q] at h; exact h.elim
    | some d =>
      rw [q] at h
      have h1 := Rel.view (T := vs.zip os ++ T) r q
      obtain ⟨ds, h2, h3⟩ := Rel.views (Nat.succ.inj hl) (Rel.drop (T := vs.zip os ++ T) r) h
      exact ⟨d :: ds, h2, .cons h1 h3⟩
  | [], _ :: _, _, hl, _, _ => by cases hl
  | _ :: _, [], _, hl, _, _ => by cases hl
theorem scal_any {K : PySem.W.Frag} {G0 H : Hp} {L : Ent} {v : V} {o : O} (h : isScal o) (r : R K G0 H ((v, o) :: L)) : ∃ d, o = .fz d ∧ ∀ G, Dq K G v d := by
  cases o with
  | fz d =>
    refine ⟨d, rfl, fun G => ?_⟩
    cases d with
    | int i => rw [r.int]; exact .int i
    | bool b => rw [r.bl]; exact .bl b
    | str z => rw [r.str]; exact .str z
    | none => rw [r.non]; exact .non
    | list _ => exact h.elim
    | tuple _ => exact h.elim
    | dict _ => exact h.elim
  | own _ => exact h.elim
  | ol _ => exact h.elim
  | box _ _ => exact h.elim
  | al _ => exact h.elim
  | any => exact h.elim
  | dct _ => exact h.elim
  | ob _ => exact h.elim
theorem useV {G0 : Hp} {Γ : Gm} {T F : Ent} {σ : Sl} {H : Hp} {vs : List V} {os : List O} {Kt : O → Gm → Prop} {Q : VK} {E : XK} (hl : vs.length = os.length) (R2 : Rel X.K G0 (vs.zip os ++ T) F σ H Γ) (k1 : vws Γ os fun ds => ds.length = n ∧ φ ds fun o => isScal o ∧ Kt o Γ)
    (q : ∀ o Γ' v H', Kt o Γ' → Rel X.K G0 ((v, o) :: T) F σ H' Γ' → Q v H') : spP X.K n φ vs H Q E := by
  obtain ⟨ds, ⟨h1, h2⟩, h3⟩ := Rel.views hl R2 k1
  have R3 := R2.dropN
  obtain ⟨G1, r1, rest⟩ := R3.r.look h3
  refine ⟨G1, ds, [], _, dpAll_len h3, h1, by rw [List.append_nil]; exact r1, h2, fun o v H' ⟨k2, k3⟩ n1 r => ?_⟩
  obtain ⟨d, rfl, hd⟩ := scal_any k2 r
  have R4 : Rel X.K G0 T F σ H' Γ := ⟨R3.fit, R3.al, (rest H' _ r).1⟩
  exact q _ Γ v H' k3 (R4.push hd)
theorem de_callV (Fo : FnOk X.prog X.w X.K X.mg X.base CX0 k f fd ps (spP X.K n φ)) (hr : Room k X.A) (hg : Gl X x) (hm : X.mg x = some (.ref f)) (hk : PySem.W.keepIn X.K (.ref f) = true) (hb : Binds X.K fd ps [])
    (ha : DA X (e :: es) τs) (hdb : (x == ("__debug__" : Str)) = false := by decide) (he : starEach (e :: es) X.env = (false, eval e X.env) :: starEach es X.env := by rfl) (hpl : (backTo pos (starEach es X.env)).any (·.1) = false := by rfl) :
    DE X (.Call (.Name x p) (e :: es) [] pos) (dCallV n φ τs) := peI (pe_call Fo hr hg hm hk hb .nil pass0 ha hdb he hpl) fun σ H Q ⟨G0, Γ, T, F, Kt, R1, k, q⟩ => ⟨G0, Γ, T, F, _, R1, k, fun os Γ1 vs H1 k1 hl R2 => by
  show spP X.K n φ (vs ++ []) H1 Q E0
  rw [List.append_nil]
  exact useV hl R2 k1 q⟩
/-- a def that draws -/
def onBox (n : Nat) (φ : Nat → List PyData → (O → Nat → Prop) → Prop) (Kt : O → Gm → Prop) (Γ1 : Gm) (os : List O) : Prop := match os with
  | .al i :: os1 => match get Γ1 i with
    | some (.box p m) => escs (put Γ1 i none) os1 fun ds Γ2 => ds.length = n ∧ get Γ2 i = none ∧ i < Γ2.length ∧ φ m ds fun o m' => Kt o (put Γ2 i (some (.box p m')))
    | _ => False
  | _ => False
def dCallB (n : Nat) (φ : Nat → List PyData → (O → Nat → Prop) → Prop) (t : TAd) : TEd := fun Γ Kt => t Γ fun os Γ1 => onBox n φ Kt Γ1 os
theorem put_none_get : ∀ {Γ : Gm} {i : Nat}, get Γ i = none → put Γ i none = Γ
  | [], _, _ => rfl
  | x :: Γ, 0, h => by
    have h : x = none := h
    rw [h]
    rfl
  | x :: Γ, i + 1, h => congrArg (x :: ·) (put_none_get (Γ := Γ) (i := i) h)
theorem useB {G0 : Hp} {Γ : Gm} {T F : Ent} {σ : Sl} {H : Hp} {vs : List V} {os : List O} {Kt : O → Gm → Prop} {Q : VK} {E : XK} (hl : vs.length = os.length) (R2 : Rel X.K G0 (vs.zip os ++ T) F σ H Γ)
    (k1 : onBox n φb Kt Γ os)
    (q : ∀ o Γ' v H', Kt o Γ' → Rel X.K G0 ((v, o) :: T) F σ H' Γ' → Q v H') : spB X.K n φb vs H Q E := by
  cases os with
  | nil => exact k1.elim
  | cons oh os1 =>
    cases oh with
    | al i =>
      cases g : get Γ i with
      | none => simp only [onBox, g] at k1
      | some u =>
        simp only [onBox, g] at k1
        obtain ⟨p, m, rfl⟩ : ∃ p m, u = .box p m := by
          cases u with
          | box p m => exact ⟨p, m, rfl⟩
          | _ => exact k1.elim
        have k1 : escs (put Γ i none) os1 fun ds Γ2 => ds.length = n ∧ get Γ2 i = none ∧ i < Γ2.length ∧ φb m ds fun o m' => Kt o (put Γ2 i (some (.box p m'))) := k1
        obtain ⟨v, vr, rfl⟩ : ∃ v r, vs = v :: r := by
          cases vs with
          | nil => cases hl
          | cons v r => exact ⟨v, r, rfl⟩
        have R2 : Rel X.K G0 ((v, .al i) :: (vr.zip os1 ++ T)) F σ H Γ := R2
        have ev : σ[i]? = some (some v) := R2.al v i List.mem_cons_self
        obtain ⟨w', h1, h2, h3⟩ := R2.drop.out g
        rw [h1] at ev
        cases ev
        obtain ⟨rfl, _⟩ := h2.draw
        have R3 : Rel X.K G0 (vr.zip os1 ++ T) ((.ref p, .box p m) :: F) σ H (put Γ i none) := ⟨h3, R2.al.tail, h2.perm (by
          have q : ((vr.zip os1 ++ T) ++ (ents σ (put Γ i none) ++ (V.ref p, O.box p m) :: F)).Perm ((V.ref p, O.box p m) :: ((vr.zip os1 ++ T) ++ (ents σ (put Γ i none) ++ F))) := by
            rw [← List.append_assoc, ← List.append_assoc]
            exact List.perm_middle
          exact q.symm)⟩
        obtain ⟨ds, Γ2, ⟨e1, e2, e4, e3⟩, hl2, R4⟩ := Rel.escapes (Nat.succ.inj hl) R3 k1
        refine ⟨G0, p, m, ds, vr, T ++ (ents σ Γ2 ++ F), _, rfl, hl2, e1, ?_, e3, fun o m' u H' k2 n1 r => q o _ u H' k2 ?_⟩
        · refine R4.r.perm ?_
          rw [List.append_assoc]
          have q : (fzs vr ds ++ (T ++ (ents σ Γ2 ++ (V.ref p, O.box p m) :: F))).Perm ((V.ref p, O.box p m) :: (fzs vr ds ++ (T ++ (ents σ Γ2 ++ F)))) := by
            rw [← List.append_assoc, ← List.append_assoc, ← List.append_assoc, ← List.append_assoc]
            exact List.perm_middle
          exact q
        · have hput : put Γ2 i none = Γ2 := put_none_get e2
          have r5 : R X.K G0 H' ((.ref p, .box p m') :: (((u, o) :: T) ++ (ents σ (put Γ2 i none) ++ F))) := by
            rw [hput]
            exact r.perm (.swap _ _ _)
          exact Rel.back (by rw [hput]; exact R4.fit) (AlOk.cons (fun w j mm => R2.al w j (List.mem_cons_of_mem _ (List.mem_append_right _ mm))) n1) e4 h1 r5
    | _ => exact k1.elim
theorem de_callB (Fo : FnOk X.prog X.w X.K X.mg X.base CX0 k f fd ps (spB X.K n φb)) (hr : Room k X.A) (hg : Gl X x) (hm : X.mg x = some (.ref f)) (hk : PySem.W.keepIn X.K (.ref f) = true) (hb : Binds X.K fd ps [])
    (ha : DA X (e :: es) τs) (hdb : (x == ("__debug__" : Str)) = false := by decide) (he : starEach (e :: es) X.env = (false, eval e X.env) :: starEach es X.env := by rfl) (hpl : (backTo pos (starEach es X.env)).any (·.1) = false := by rfl) :
    DE X (.Call (.Name x p) (e :: es) [] pos) (dCallB n φb τs) := peI (pe_call Fo hr hg hm hk hb .nil pass0 ha hdb he hpl) fun σ H Q ⟨G0, Γ, T, F, Kt, R1, k, q⟩ => ⟨G0, Γ, T, F, _, R1, k, fun os Γ1 vs H1 k1 hl R2 => by
  show spB X.K n φb (vs ++ []) H1 Q E0
  rw [List.append_nil]
  exact useB hl R2 k1 q⟩
end
end Dl
end
section
namespace Dl
open PySem PySem.Spec PyProof.Rows L2
section
variable {K : PySem.W.Frag} {G0 H H' : Hp} {T F S : Ent} {σ σ' : Sl} {Γ : Gm} {v w : V} {o p : O} {d e : PyData} {i : Nat} {ds es : List PyData}
/-- data whose items stand still each -/
def vk (Γ : Gm) : O → Option PyData
  | .fz d => some d
  | .own ds => some (.list ds)
  | .al i => match get Γ i with
    | some (.fz d) => some d
    | some (.own ds) => some (.list ds)
    | _ => none
  | _ => none
theorem Rel.kids {k : Bool} (r : Rel K G0 ((v, o) :: T) F σ H Γ) (h : vk Γ o = some d) (hi : itemsOf d = some (k, ds)) : ∃ a vs, v = .ref a ∧ SQ K H k a vs ∧ vs.length = ds.length ∧ R K G0 H (fzs vs ds ++ ((v, o) :: (T ++ (ents σ Γ ++ F)))) ∧ (k = true → H a = some (.lst vs)) := by
  have own1 : ∀ {L : Ent} {xs : List PyData}, itemsOf (.list xs) = some (k, ds) → R K G0 H ((v, .own xs) :: L) → ∃ a vs, v = .ref a ∧ SQ K H k a vs ∧ vs.length = ds.length ∧ R K G0 H (fzs vs ds ++ ((v, .own xs) :: L)) ∧ (k = true → H a = some (.lst vs)) := fun {L xs} hi r => by
    cases hi
    obtain ⟨a, vs, h1, h2, h3, h4⟩ := r.itemsO
    exact ⟨a, vs, h1, SqL.of h2, h3, h4, fun _ => h2⟩
  have fz1 : ∀ {L : Ent}, R K G0 H ((v, .fz d) :: L) → ∃ a vs, v = .ref a ∧ SQ K H k a vs ∧ vs.length = ds.length ∧ R K G0 H (fzs vs ds ++ ((v, .fz d) :: L)) ∧ (k = true → H a = some (.lst vs)) := fun {L} r => by
    cases d with
    | list xs =>
      cases hi
      obtain ⟨a, vs, h1, h2, h3, h4⟩ := r.items
      exact ⟨a, vs, h1, SqL.of h2, h3, h4, fun _ => h2⟩
    | tuple xs =>
      cases hi
      obtain ⟨a, vs, h1, h2, h3, h4⟩ := r.itemsT
      exact ⟨a, vs, h1, h2, h3, h4, fun z => by cases z⟩
    | none => cases hi
    | bool _ => cases hi
    | int _ => cases hi
    | str _ => cases hi
    | dict _ => cases hi
  cases o with
  | fz x => cases h; exact fz1 r.r
  | own xs => cases h; exact own1 hi r.r
  | al i =>
    have h : (match get Γ i with | some (.fz d) => some d | some (.own ds) => some (.list ds) | _ => none) = some d := h
    cases g : get Γ i with
    | none => rw [g] at h; cases h
    | some u =>
      rw [g] at h
      obtain ⟨w, h1, h2, h3⟩ := r.out g
      have ev : σ[i]? = some (some v) := r.al v i List.mem_cons_self
      rw [h1] at ev
      cases ev
      have back : ∀ {M : Ent} {u}, get Γ i = some u → R K G0 H (M ++ ((v, u) :: ((v, .al i) :: T ++ (ents σ (put Γ i none) ++ F)))) → R K G0 H (M ++ ((v, .al i) :: (T ++ (ents σ Γ ++ F)))) := fun {M u} g r9 => by
        obtain ⟨w, q1, q2, q3⟩ := ents_out r.fit g
        rw [h1] at q1
        cases q1
        refine r9.perm (List.Perm.append_left M ?_)
        have q : ((v, u) :: ((v, O.al i) :: T ++ (ents σ (put Γ i none) ++ F))).Perm ((v, .al i) :: (T ++ ((v, u) :: (ents σ (put Γ i none) ++ F)))) := (List.Perm.swap _ _ _).trans (List.Perm.cons _ List.perm_middle.symm)
        exact q.trans (List.Perm.cons _ (List.Perm.append_left T (q2.symm.append_right F)))
      cases u with
      | fz x =>
        cases h
        obtain ⟨a, vs, e1, e2, e3, e4, e5⟩ := fz1 h2
        exact ⟨a, vs, e1, e2, e3, back g e4, e5⟩
      | own xs =>
        cases h
        obtain ⟨a, vs, e1, e2, e3, e4, e5⟩ := own1 hi h2
        exact ⟨a, vs, e1, e2, e3, back g e4, e5⟩
      | ol _ => cases h
      | box _ _ => cases h
      | al _ => cases h
      | any => cases h
      | dct _ => cases h
      | ob _ => cases h
  | ol _ => cases h
  | box _ _ => cases h
  | any => cases h
  | dct _ => cases h
  | ob _ => cases h
/-- one more, in front of the temporaries, taken from what is at hand -/
theorem Rel.take1 {M : Ent} (f : Fit σ Γ) (a : AlOk σ T) (n : ∀ i, o ≠ .al i) (r : R K G0 H ((v, o) :: (M ++ (T ++ (ents σ Γ ++ F))))) : Rel K G0 ((v, o) :: T) F σ H Γ := by
  refine ⟨f, a.cons n, ?_⟩
  have q : ((v, o) :: (M ++ (T ++ (ents σ Γ ++ F)))).Perm (M ++ ((v, o) :: (T ++ (ents σ Γ ++ F)))) := List.perm_middle.symm
  exact R.dropL (r.perm q)
end
section
variable {X : Cx} {pos : Pos} {e : Expr} {es : List Expr} {τa τb τc : TEd} {τs : TAd} {a b c : Expr}
def dTup (t : TAd) : TEd := fun Γ Kt => t Γ fun os Γ1 => escs Γ1 os fun ds Γ2 => ds.length ≤ sizeLine ∧ Kt (.fz (.tuple ds)) Γ2
theorem de_tup {x1} (h : DA X es τs) : DE X (.Tuple es x1 pos) (dTup τs) := peI (pe_tup h) fun σ H Q ⟨G0, Γ, T, F, Kt, R1, k, q⟩ => ⟨G0, Γ, T, F, _, R1, k, fun os Γ1 vs H1 k1 hl R2 => by
  obtain ⟨ds, Γ2, ⟨h1, h2⟩, hl2, R3⟩ := Rel.escapes hl R2 k1
  refine ⟨by rw [hl2]; exact h1, fun p hp => q _ Γ2 _ _ h2 ⟨R3.fit, ?_, ?_⟩⟩
  · exact AlOk.cons (fun w j m => R2.al w j (List.mem_append_right _ m)) (fun _ z => nomatch z)
  · have r := R3.r
    rw [List.append_assoc] at r
    exact R.tuple r hl2 hp⟩
def dLst (t : TAd) : TEd := fun Γ Kt => t Γ fun os Γ1 => escs Γ1 os fun ds Γ2 => ds.length ≤ sizeLine ∧ Kt (.own ds) Γ2
theorem de_lst (h : DA X es τs) : DE X (.List es pos) (dLst τs) := peI (pe_lst h) fun σ H Q ⟨G0, Γ, T, F, Kt, R1, k, q⟩ => ⟨G0, Γ, T, F, _, R1, k, fun os Γ1 vs H1 k1 hl R2 => by
  obtain ⟨ds, Γ2, ⟨h1, h2⟩, hl2, R3⟩ := Rel.escapes hl R2 k1
  refine ⟨by rw [hl2]; exact h1, fun p hp => q _ Γ2 _ _ h2 ⟨R3.fit, ?_, ?_⟩⟩
  · exact AlOk.cons (fun w j m => R2.al w j (List.mem_append_right _ m)) (fun _ z => nomatch z)
  · have r := R3.r
    rw [List.append_assoc] at r
    exact R.list r hl2 hp⟩
/-- a list whose items stay one's own -/
def dLstO (t : TAd) : TEd := fun Γ Kt => t Γ fun os Γ1 => fixN Γ1 os fun os1 Γ2 => os1.length ≤ sizeLine ∧ Kt (.ol os1) Γ2
theorem zip_maps {vs : List V} {os : List O} (h : vs.length = os.length) : (vs.zip os).map (·.1) = vs ∧ (vs.zip os).map (·.2) = os := by
  constructor
  · exact List.map_fst_zip (Nat.le_of_eq h)
  · exact List.map_snd_zip (Nat.le_of_eq h.symm)
theorem de_lstO (h : DA X es τs) : DE X (.List es pos) (dLstO τs) := peI (pe_lst h) fun σ H Q ⟨G0, Γ, T, F, Kt, R1, k, q⟩ => ⟨G0, Γ, T, F, _, R1, k, fun os Γ1 vs H1 k1 hl R2 => by
  obtain ⟨os', Γ2, ⟨h1, h2⟩, hl2, _, R3⟩ := Rel.fixedN hl R2 k1
  refine ⟨by rw [hl2]; exact h1, fun p hp => q _ Γ2 _ _ h2 ⟨R3.fit, ?_, ?_⟩⟩
  · exact AlOk.cons (fun w j m => R2.al w j (List.mem_append_right _ m)) (fun _ z => nomatch z)
  · have r := R3.r
    rw [List.append_assoc] at r
    have r2 := R.listO (p := p) r hp
    rw [(zip_maps hl2).1, (zip_maps hl2).2] at r2
    exact r2⟩
def dIx (τa τb : TEd) : TEd := fun Γ Kt => τa Γ fun o Γ1 => τb Γ1 fun p Γ2 => match vk Γ2 o, p with
  | some d, .fz (.int i) => (match itemsOf d with
    | some (_, ds) => (match atI ds i with
      | some e => Kt (.fz e) Γ2
      | none => False)
    | none => False)
  | _, _ => False
theorem atI_len {α β : Type} {xs : List α} {ys : List β} {i : Int} {y : β} (hl : xs.length = ys.length) (h : atI ys i = some y) : ∃ j : Nat, ys[j]? = some y ∧ ∃ x, xs[j]? = some x ∧ atI xs i = some x := by
  unfold atI at h ⊢
  rw [hl]
  cases e : ixN ys.length i with
  | none => rw [e] at h; cases h
  | some j =>
    rw [e] at h
    have h : ys[j]? = some y := h
    have hj : j < ys.length := (List.getElem?_eq_some_iff.mp h).1
    exact ⟨j, h, xs[j]'(by omega), List.getElem?_eq_getElem _, List.getElem?_eq_getElem (l := xs) (i := j) (by omega)⟩
theorem de_ix (ha : DE X a τa) (hb : DE X b τb) (hs : PlainIx b := by exact fun _ _ => rfl) : DE X (.Subscript a b pos) (dIx τa τb) := peI (pe_ix ix_seq ha hb hs) fun σ H Q ⟨G0, Γ, T, F, Kt, R1, k, q⟩ =>
  ⟨G0, Γ, T, F, _, R1, k, fun o Γ1 v H1 k1 R2 => ⟨G0, Γ1, (v, o) :: T, F, _, R2, k1, fun p Γ2 w H2 k2 R3 => by
    cases hv : vk Γ2 o with
    | none => simp only [hv] at k2
    | some d =>
      cases p with
      | fz pd =>
        cases pd with
        | int i =>
          simp only [hv] at k2
          cases hi : itemsOf d with
          | none => rw [hi] at k2; exact k2.elim
          | some pr =>
            obtain ⟨kd, ds⟩ := pr
            rw [hi] at k2
            have k2 : (match atI ds i with | some e => Kt (.fz e) Γ2 | none => False) := k2
            cases hx : atI ds i with
            | none => rw [hx] at k2; exact k2.elim
            | some e =>
              rw [hx] at k2
              obtain rfl := R.int R3.r
              have R4 := R3.drop
              obtain ⟨ad, vs, rfl, hq, hl, r, _⟩ := R4.kids hv hi
              obtain ⟨j, hj, x, hxj, hxi⟩ := atI_len hl hx
              have r5 := fzs_get hl hxj r
              have ej : ds.getD j .none = e := by rw [List.getD_eq_getElem?_getD, hj]; rfl
              rw [ej] at r5
              have fin : Q x H2 := q _ Γ2 x H2 k2 (Rel.take1 (M := [(V.ref ad, o)]) R4.fit R4.al.tail (fun _ z => nomatch z) r5)
              cases kd with
              | true => exact .inl ⟨ad, vs, i, x, rfl, rfl, hq, hxi, fin⟩
              | false => exact .inr (.inl ⟨ad, vs, i, x, rfl, rfl, hq, hxi, fin⟩)
        | none => simp only [hv] at k2
        | bool _ => simp only [hv] at k2
        | str _ => simp only [hv] at k2
        | list _ => simp only [hv] at k2
        | tuple _ => simp only [hv] at k2
        | dict _ => simp only [hv] at k2
      | own _ => simp only [hv] at k2
      | ol _ => simp only [hv] at k2
      | box _ _ => simp only [hv] at k2
      | al _ => simp only [hv] at k2
      | any => simp only [hv] at k2
      | dct _ => simp only [hv] at k2
      | ob _ => simp only [hv] at k2⟩⟩
def onI2 (o p : O) (k : Int → Int → Prop) : Prop := match o, p with
  | .fz (.int i), .fz (.int j) => k i j
  | _, _ => False
theorem onI2_use {o p : O} {k : Int → Int → Prop} (h : onI2 o p k) : ∃ i j, o = .fz (.int i) ∧ p = .fz (.int j) ∧ k i j := by
  unfold onI2 at h
  split at h
  · exact ⟨_, _, rfl, rfl, h⟩
  · exact h.elim
theorem fit_int {K : PySem.W.Frag} {C : Int → Int → Prop} {g : Int → Int → Int} : Fit2 K (rI C fun i j => .int (g i j)) (fun Γ o p Kt => onI2 o p fun i j => C i j ∧ Kt (.fz (.int (g i j))) Γ) := fun G0 Γ T F σ H v w o p Kt Q R1 h q => by
  obtain ⟨i, j, rfl, rfl, h⟩ := onI2_use h
  obtain rfl := R.int R1.r
  obtain rfl := R.int R1.drop.r
  exact ⟨_, _, rfl, rfl, h.1, q _ Γ _ H h.2 (R1.drop.drop.push fun _ => .int _)⟩
theorem fit_int0 {K : PySem.W.Frag} {g : Int → Int → Int} : Fit2 K (rI0 fun i j => .int (g i j)) (fun Γ o p Kt => onI2 o p fun i j => Kt (.fz (.int (g i j))) Γ) := fun G0 Γ T F σ H v w o p Kt Q R1 h q => by
  obtain ⟨i, j, rfl, rfl, h⟩ := onI2_use h
  obtain rfl := R.int R1.r
  obtain rfl := R.int R1.drop.r
  exact ⟨_, _, rfl, rfl, q _ Γ _ H h (R1.drop.drop.push fun _ => .int _)⟩
theorem fit_intB {K : PySem.W.Frag} {g : Int → Int → Bool} : Fit2 K (rI0 fun i j => .bl (g i j)) (fun Γ o p Kt => onI2 o p fun i j => Kt (.fz (.bool (g i j))) Γ) := fun G0 Γ T F σ H v w o p Kt Q R1 h q => by
  obtain ⟨i, j, rfl, rfl, h⟩ := onI2_use h
  obtain rfl := R.int R1.r
  obtain rfl := R.int R1.drop.r
  exact ⟨_, _, rfl, rfl, q _ Γ _ H h (R1.drop.drop.push fun _ => .bl _)⟩
abbrev dSubI := dBin fun Γ o p Kt => onI2 o p fun i j => Kt (.fz (.int (i - j))) Γ
abbrev dMulI := dBin fun Γ o p Kt => onI2 o p fun i j => CMul i j ∧ Kt (.fz (.int (i * j))) Γ
abbrev dModI := dBin fun Γ o p Kt => onI2 o p fun i j => 0 < j ∧ Kt (.fz (.int (i % j))) Γ
abbrev dPowI := dBin fun Γ o p Kt => onI2 o p fun i j => CPow i j ∧ Kt (.fz (.int (i ^ j.toNat))) Γ
theorem de_subI (ha : DE X a τa) (hb : DE X b τb) : DE X (.BinOp a .Sub b pos) (dSubI τa τb) := de_op fit_int0 op_sub ha hb
theorem de_mulI (ha : DE X a τa) (hb : DE X b τb) : DE X (.BinOp a .Mult b pos) (dMulI τa τb) := de_op fit_int op_mul ha hb
theorem de_modI (ha : DE X a τa) (hb : DE X b τb) : DE X (.BinOp a .Mod b pos) (dModI τa τb) := de_op fit_int op_mod ha hb
theorem de_powI (ha : DE X a τa) (hb : DE X b τb) : DE X (.BinOp a .Pow b pos) (dPowI τa τb) := de_op fit_int op_pow ha hb
def dNegI (τ : TEd) : TEd := fun Γ Kt => τ Γ fun o Γ1 => match o with
  | .fz (.int i) => Kt (.fz (.int (-i))) Γ1
  | _ => False
theorem de_neg (ha : DE X a τa) : DE X (.UnaryOp .USub a pos) (dNegI τa) := peI (pe_un un_neg ha) fun σ H Q ⟨G0, Γ, T, F, Kt, R1, k, q⟩ => ⟨G0, Γ, T, F, _, R1, k, fun o Γ1 v H1 k1 R2 => by
  split at k1
  · obtain rfl := R.int R2.r
    exact ⟨_, rfl, q _ Γ1 _ H1 k1 (R2.drop.push fun _ => .int _)⟩
  · exact k1.elim⟩
/-- + of ints, lists, tuples -/
theorem opr_or {f : Value → Value → Sem Value} {r r' : R2} (h : OpR X f r) (h' : OpR X f r') : OpR X f (fun x y H Q => r x y H Q ∨ r' x y H Q) := fun pins s σ H x y v u Q I rx ry q =>
  q.elim (fun z => h pins s σ H x y v u Q I rx ry z) fun z => h' pins s σ H x y v u Q I rx ry z
def addD (d e : PyData) (k : O → Prop) : Prop := match d, e with
  | .int i, .int j => k (.fz (.int (i + j)))
  | .list xs, .list ys => xs.length + ys.length ≤ sizeLine ∧ k (.own (xs ++ ys))
  | .tuple xs, .tuple ys => xs.length + ys.length ≤ sizeLine ∧ k (.fz (.tuple (xs ++ ys)))
  | .str x, .str y => x.length + y.length ≤ sizeLine ∧ k (.fz (.str (x ++ y)))
  | _, _ => False
def dAdd2 (Γ : Gm) (o p : O) (Kt : O → Gm → Prop) : Prop := match vk Γ o, vk Γ p with
  | some d, some e => addD d e fun z => Kt z Γ
  | _, _ => False
theorem fzs_app {vs us : List V} {ds es : List PyData} (h : vs.length = ds.length) : fzs (vs ++ us) (ds ++ es) = fzs vs ds ++ fzs us es := by
  induction vs generalizing ds with
  | nil =>
    cases ds with
    | nil => rfl
    | cons d ds => cases h
  | cons v vs ih =>
    cases ds with
    | nil => cases h
    | cons d ds => exact congrArg (fun l => (v, O.fz d) :: l) (ih (Nat.succ.inj h))
end
end Dl
end
section
namespace Dl
open PySem PySem.Spec PyProof.Rows L2
section
variable {K : PySem.W.Frag} {G0 H H' : Hp} {T F S : Ent} {σ σ' : Sl} {Γ : Gm} {v w : V} {o p : O} {d e : PyData} {i : Nat} {ds es : List PyData}
theorem Rel.kidsF {k : Bool} (r : Rel K G0 ((v, o) :: T) F σ H Γ) (h : vk Γ o = some d) (hi : itemsOf d = some (k, ds)) : ∃ a vs, v = .ref a ∧ SQ K H k a vs ∧ vs.length = ds.length ∧ (k = true → H a = some (.lst vs)) ∧ Rel K G0 ((v, o) :: T) (fzs vs ds ++ F) σ H Γ := by
  obtain ⟨a, vs, h1, h2, h3, h4, h5⟩ := r.kids h hi
  refine ⟨a, vs, h1, h2, h3, h5, r.fit, r.al, h4.perm ?_⟩
  have q : ∀ M N L : Ent, (M ++ (N ++ L)).Perm (N ++ (M ++ L)) := fun M N L => by
    rw [← List.append_assoc, ← List.append_assoc]
    exact List.perm_append_comm.append_right L
  have e1 := q (fzs vs ds) ((v, o) :: T) (ents σ Γ ++ F)
  exact e1.trans (List.Perm.append_left _ (q (fzs vs ds) (ents σ Γ) F))
theorem Rel.unF {M : Ent} (r : Rel K G0 T (M ++ F) σ H Γ) : R K G0 H (M ++ (T ++ (ents σ Γ ++ F))) := by
  have q : ∀ M N L : Ent, (M ++ (N ++ L)).Perm (N ++ (M ++ L)) := fun M N L => by
    rw [← List.append_assoc, ← List.append_assoc]
    exact List.perm_append_comm.append_right L
  have e1 := q T M (ents σ Γ ++ F)
  exact r.r.perm ((List.Perm.append_left T (q (ents σ Γ) M F)).trans e1)
/-- a new list, a new tuple of items taken from what is at hand -/
theorem Rel.newL {M : Ent} {vs : List V} {q : Addr} (r : Rel K G0 T (fzs vs ds ++ F) σ H Γ) (hl : vs.length = ds.length) (hp : H q = none) : Rel K G0 ((.ref q, .own ds) :: T) F σ (upd H q (.lst vs)) Γ :=
  ⟨r.fit, r.al.cons (fun _ z => nomatch z), R.list (Rel.unF r) hl hp⟩
theorem Rel.newT {vs : List V} {q : Addr} (r : Rel K G0 T (fzs vs ds ++ F) σ H Γ) (hl : vs.length = ds.length) (hp : H q = none) : Rel K G0 ((.ref q, .fz (.tuple ds)) :: T) F σ (upd H q (.tup vs)) Γ :=
  ⟨r.fit, r.al.cons (fun _ z => nomatch z), R.tuple (Rel.unF r) hl hp⟩
theorem vk_atom (r : Rel K G0 ((v, o) :: T) F σ H Γ) (h : vk Γ o = some d) (hi : ∀ xs, d ≠ .list xs) : R K G0 H ((v, .fz d) :: (T ++ (ents σ Γ ++ F))) := by
  cases o with
  | fz x => cases h; exact r.r
  | own xs => cases h; exact absurd rfl (hi xs)
  | al i =>
    have h : (match get Γ i with | some (.fz d) => some d | some (.own ds) => some (.list ds) | _ => none) = some d := h
    cases g : get Γ i with
    | none => rw [g] at h; cases h
    | some u =>
      rw [g] at h
      cases u with
      | fz x =>
        cases h
        obtain ⟨w, h1, h2, h3⟩ := r.out g
        have ev : σ[i]? = some (some v) := r.al v i List.mem_cons_self
        rw [h1] at ev
        cases ev
        have r2 := h2.copy
        have r3 : R K G0 H ((v, .fz d) :: ((v, .al i) :: T ++ (ents σ Γ ++ F))) := by
          obtain ⟨w, q1, q2, q3⟩ := ents_out r.fit g
          rw [h1] at q1
          cases q1
          refine r2.perm (List.Perm.cons _ ?_)
          exact (List.perm_middle (l₁ := (v, O.al i) :: T) (l₂ := ents σ (put Γ i none) ++ F) (a := (v, O.fz d))).symm.trans (List.Perm.append_left _ (q2.symm.append_right F))
        exact (R.tail (v := v) (o := .al i) (r3.perm (.swap _ _ _)))
      | own xs => cases h; exact absurd rfl (hi xs)
      | ol _ => cases h
      | box _ _ => cases h
      | al _ => cases h
      | any => cases h
      | dct _ => cases h
      | ob _ => cases h
  | ol _ => cases h
  | box _ _ => cases h
  | any => cases h
  | dct _ => cases h
  | ob _ => cases h
end
theorem vk_take {K : PySem.W.Frag} {G0 H : Hp} {T F : Ent} {σ : Sl} {Γ : Gm} {v w : V} {o : O} {d : PyData} (R1 : Rel K G0 T F σ H Γ) (r : R K G0 H ((v, .fz d) :: ((w, o) :: T ++ (ents σ Γ ++ F)))) : Rel K G0 ((v, .fz d) :: T) F σ H Γ :=
  ⟨R1.fit, R1.al.cons (fun _ z => nomatch z), R.tail (v := w) (o := o) (r.perm (.swap _ _ _))⟩
def rAdd4 (K : PySem.W.Frag) : R2 := fun x y H Q => rI0 (fun i j => .int (i + j)) x y H Q ∨ (rCat x y H Q ∨ (rCatA K x y H Q ∨ (∃ i j, x = .str i ∧ y = .str j ∧ i.length + j.length ≤ sizeLine ∧ Q (.str (i ++ j)) H)))
theorem op_add4 {X : Cx} : OpR X (binaryOp .Add) (rAdd4 X.K) := opr_or op_add (opr_or op_cat (opr_or op_catA op_add_str))
theorem fit_add {K : PySem.W.Frag} : Fit2 K (rAdd4 K) dAdd2 := fun G0 Γ T F σ H v w o p Kt Q R1 h q => by
  unfold dAdd2 at h
  cases h1 : vk Γ o with
  | none => simp only [h1] at h
  | some d =>
    cases h2 : vk Γ p with
    | none => simp only [h1, h2] at h
    | some e =>
      simp only [h1, h2] at h
      unfold addD at h
      split at h
      · rename_i i j
        obtain rfl := R.int (vk_atom R1 h2 (fun _ z => nomatch z))
        obtain rfl := R.int (vk_atom R1.drop h1 (fun _ z => nomatch z))
        exact .inl ⟨i, j, rfl, rfl, q _ Γ _ H h (R1.drop.drop.push fun _ => .int _)⟩
      · rename_i xs ys
        obtain ⟨b, us, rfl, _, l2, t2, R2⟩ := R1.kidsF h2 rfl
        obtain ⟨a, vs, rfl, _, l1, t1, R3⟩ := R2.drop.kidsF h1 rfl
        refine .inr (.inl ⟨a, b, vs, us, rfl, rfl, t1 rfl, t2 rfl, by rw [l1, l2]; exact h.1, fun n hn => q _ Γ _ _ h.2 ?_⟩)
        have R4 : Rel K G0 T (fzs (vs ++ us) (xs ++ ys) ++ F) σ H Γ := by
          rw [fzs_app l1, List.append_assoc]
          exact R3.drop
        exact Rel.newL (M := []) R4 (by rw [List.length_append, List.length_append, l1, l2]) hn
      · rename_i xs ys
        obtain ⟨b, us, rfl, hq2, l2, _, R2⟩ := R1.kidsF h2 rfl
        obtain ⟨a, vs, rfl, hq1, l1, _, R3⟩ := R2.drop.kidsF h1 rfl
        have R4 : Rel K G0 T (fzs (vs ++ us) (xs ++ ys) ++ F) σ H Γ := by
          rw [fzs_app l1, List.append_assoc]
          exact R3.drop
        refine .inr (.inr (.inl ⟨a, b, vs, us, rfl, rfl, hq1, hq2, by rw [l1, l2]; exact h.1, ?_⟩))
        refine ⟨fun z => ?_, fun z z2 => ?_, fun z z2 n hn => q _ Γ _ _ h.2 (Rel.newT R4 (by rw [List.length_append, List.length_append, l1, l2]) hn)⟩
        · have e1 : xs = [] := List.length_eq_zero_iff.mp (by rw [← l1, z]; rfl)
          subst e1
          exact q _ Γ _ H h.2 (vk_take R1.drop.drop (vk_atom R1 h2 (fun _ z => nomatch z)))
        · have e1 : ys = [] := List.length_eq_zero_iff.mp (by rw [← l2, z2]; rfl)
          subst e1
          rw [List.append_nil] at h
          exact q _ Γ _ H h.2 ⟨R1.fit, R1.drop.al.tail.cons (by intro _ z; cases z), vk_atom R1.drop h1 (fun _ z => nomatch z)⟩
      · rename_i x y
        obtain rfl := R.str (vk_atom R1 h2 (fun _ z => nomatch z))
        obtain rfl := R.str (vk_atom R1.drop h1 (fun _ z => nomatch z))
        exact .inr (.inr (.inr ⟨x, y, rfl, rfl, h.1, q _ Γ _ H h.2 (R1.drop.drop.push fun _ => .str _)⟩))
      · exact h.elim
end Dl
end
section
namespace Dl
open PySem PySem.Spec PyProof.Rows L2
def eqK (d e : PyData) (k : Bool → Prop) : Prop := match d, e with
  | .int i, .int j => k (decide (i = j))
  | .str x, .str y => (SeqAt.shaped (.str x) = true ∧ SeqAt.shaped (.str y) = true) ∧ k (decide (x = y))
  | d, e => (SeqAt.shaped d = true ∧ SeqAt.shaped e = true) ∧ k (PyData.eqv d e)
theorem eqK_use {d e : PyData} {k : Bool → Prop} (h : eqK d e k) : SeqAt.shaped d = true ∧ SeqAt.shaped e = true ∧ k (PyData.eqv d e) := by
  unfold eqK at h
  split at h
  · exact ⟨rfl, rfl, h⟩
  · rename_i x y
    refine ⟨h.1.1, h.1.2, ?_⟩
    have e : PyData.eqv (.str x) (.str y) = decide (x = y) := by
      show (x == y) = decide (x = y)
      exact Bool.beq_eq_decide_eq x y
    rw [e]
    exact h.2
  · exact ⟨h.1.1, h.1.2, h.2⟩
def dEq2 (g : Bool → Bool) (Γ : Gm) (o p : O) (Kt : O → Gm → Prop) : Prop := match vw Γ o, vw Γ p with
  | some d, some e => eqK d e fun b => Kt (.fz (.bool (g b))) Γ
  | _, _ => False
theorem dEq2_use {K : PySem.W.Frag} {G0 H : Hp} {T F : Ent} {σ : Sl} {Γ : Gm} {v w : V} {o p : O} {g : Bool → Bool} {Kt : O → Gm → Prop} (R1 : Rel K G0 ((w, p) :: (v, o) :: T) F σ H Γ) (h : dEq2 g Γ o p Kt) :
    ∃ d e, Dp K H v d ∧ Dp K H w e ∧ SeqAt.shaped d = true ∧ SeqAt.shaped e = true ∧ Kt (.fz (.bool (g (PyData.eqv d e)))) Γ := by
  unfold dEq2 at h
  cases h1 : vw Γ o with
  | none => simp only [h1] at h
  | some d =>
    cases h2 : vw Γ p with
    | none => simp only [h1, h2] at h
    | some e =>
      simp only [h1, h2] at h
      obtain ⟨a1, a2, a3⟩ := eqK_use h
      exact ⟨d, e, dq_dp d v (noDc_sh a1) (R1.drop.view h1), dq_dp e w (noDc_sh a2) (R1.view h2), a1, a2, a3⟩
theorem fit_eq {K : PySem.W.Frag} : Fit2 K (rEqD K) (dEq2 id) := fun G0 Γ T F σ H v w o p Kt Q R1 h q => by
  obtain ⟨d, e, a1, a2, a3, a4, a5⟩ := dEq2_use R1 h
  exact ⟨d, e, a1, a2, a3, a4, q _ Γ _ H a5 (R1.drop.drop.push fun _ => .bl _)⟩
theorem fit_ne {K : PySem.W.Frag} : Fit2 K (rNeD K) (dEq2 (!·)) := fun G0 Γ T F σ H v w o p Kt Q R1 h q => by
  obtain ⟨d, e, a1, a2, a3, a4, a5⟩ := dEq2_use R1 h
  exact ⟨d, e, a1, a2, a3, a4, q _ Γ _ H a5 (R1.drop.drop.push fun _ => .bl _)⟩
/-- in, not in, of flat things -/
def flatD : PyData → Bool
  | .none => true
  | .bool _ => true
  | .int _ => true
  | .str _ => true
  | _ => false
def inD (d : PyData) (ds : List PyData) : Bool := ds.any fun z => PyData.eqv z d
def dIn2 (g : Bool → Bool) (Γ : Gm) (o p : O) (Kt : O → Gm → Prop) : Prop := match vw Γ o, vk Γ p with
  | some d, some e => (match itemsOf e with
    | some (_, ds) => (flatD d = true ∧ ds.all flatD = true) ∧ Kt (.fz (.bool (g (inD d ds)))) Γ
    | none => False)
  | _, _ => False
theorem flat_V {K : PySem.W.Frag} {H : Hp} {v : V} {d : PyData} (h : Dq K H v d) (f : flatD d = true) : flatV v = true := by
  cases h with
  | non => rfl
  | bl _ => rfl
  | int _ => rfl
  | str _ => rfl
  | lst _ _ => cases f
  | tup _ _ => cases f
  | dct _ _ => cases f
theorem eqV_D {K : PySem.W.Frag} {H H2 : Hp} {v w : V} {d e : PyData} (h : Dq K H v d) (k : Dq K H2 w e) (f : flatD d = true) (g : flatD e = true) : eqV v w = PyData.eqv d e := by
  cases h with
  | lst _ _ => cases f
  | tup _ _ => cases f
  | dct _ _ => cases f
  | _ =>
    cases k with
    | lst _ _ => cases g
    | tup _ _ => cases g
    | dct _ _ => cases g
    | _ => rfl
theorem inV_D {K : PySem.W.Frag} {H H2 : Hp} {v : V} {d : PyData} (h : Dq K H v d) (f : flatD d = true) : ∀ {us : List V} {ds : List PyData}, DqAll K H2 us ds → ds.all flatD = true → us.all flatV = true ∧ inV v us = inD d ds
  | [], [], _, _ => ⟨rfl, rfl⟩
  | u :: us, e :: ds, k, g => by
    rw [List.all_cons, Bool.and_eq_true] at g
    cases k with
    | cons k1 k2 =>
      obtain ⟨h1, h2⟩ := inV_D h f k2 g.2
      refine ⟨by rw [List.all_cons, flat_V k1 g.1, h1]; rfl, ?_⟩
      unfold inV inD at h2 ⊢
      rw [List.any_cons, List.any_cons, eqV_D k1 h g.1 f, h2]
  | [], _ :: _, k, _ => by cases k
  | _ :: _, [], k, _ => by cases k
theorem fit_in {K : PySem.W.Frag} {neg : Bool} : Fit2 K (rIn K neg) (dIn2 fun b => if neg then !b else b) := fun G0 Γ T F σ H v w o p Kt Q R1 h q => by
  unfold dIn2 at h
  cases h1 : vw Γ o with
  | none => simp only [h1] at h
  | some d =>
    cases h2 : vk Γ p with
    | none => simp only [h1, h2] at h
    | some e =>
      simp only [h1, h2] at h
      cases h3 : itemsOf e with
      | none => rw [h3] at h; exact h.elim
      | some pr =>
        obtain ⟨kd, ds⟩ := pr
        rw [h3] at h
        have h : (flatD d = true ∧ ds.all flatD = true) ∧ Kt (.fz (.bool (if neg then !inD d ds else inD d ds))) Γ := h
        obtain ⟨a, us, rfl, hq, hl, _, R2⟩ := R1.kidsF h2 h3
        have hd := R1.drop.view h1
        obtain ⟨G, g, s0, s1, ha, _⟩ := (R.fzs_iff hl).mp R2.unF
        obtain ⟨f1, f2⟩ := inV_D hd h.1.1 ha h.1.2
        refine ⟨a, us, rfl, ?_, flat_V hd h.1.1, f1, ?_⟩
        · cases kd with
          | true => exact .inl hq
          | false => exact .inr hq
        · rw [f2]
          exact q _ Γ _ H h.2 (R1.drop.drop.push fun _ => .bl _)
section
variable {X : Cx} {pos : Pos} {e : Expr} {es : List Expr} {τa τb τc : TEd} {τs : TAd} {a b c : Expr} {k : Nat}
abbrev dEq := dBin (dEq2 id)
abbrev dNe := dBin (dEq2 (!·))
theorem de_add (ha : DE X a τa) (hb : DE X b τb) : DE X (.BinOp a .Add b pos) (dBin dAdd2 τa τb) := de_op fit_add op_add4 ha hb
theorem de_eq (hr : Room k X.A) (ha : DE X a τa) (hb : DE X b τb) : DE X (.Compare a [.Eq] [b] pos) (dEq τa τb) := de_cmp fit_eq (op_eqD hr.units) ha hb (nomark _)
theorem dt_eq (hr : Room k X.A) (ha : DE X a τa) (hb : DE X b τb) : DT X (.Compare a [.Eq] [b] pos) (dTest (dEq τa τb)) := dt_cmp fit_eq (op_eqD hr.units) ha hb (nomark _)
theorem dt_ne (hr : Room k X.A) (ha : DE X a τa) (hb : DE X b τb) : DT X (.Compare a [.NotEq] [b] pos) (dTest (dNe τa τb)) := dt_cmp fit_ne (op_neD hr.units) ha hb (nomark _)
abbrev dLtI := dBin fun Γ o p Kt => onI2 o p fun i j => Kt (.fz (.bool (decide (i < j)))) Γ
abbrev dLeI := dBin fun Γ o p Kt => onI2 o p fun i j => Kt (.fz (.bool (decide (i ≤ j)))) Γ
abbrev dGtI := dBin fun Γ o p Kt => onI2 o p fun i j => Kt (.fz (.bool (decide (j < i)))) Γ
abbrev dGeI := dBin fun Γ o p Kt => onI2 o p fun i j => Kt (.fz (.bool (decide (j ≤ i)))) Γ
theorem de_lt (ha : DE X a τa) (hb : DE X b τb) : DE X (.Compare a [.Lt] [b] pos) (dLtI τa τb) := de_cmp fit_intB op_lt ha hb (nomark _)
theorem de_le (ha : DE X a τa) (hb : DE X b τb) : DE X (.Compare a [.LtE] [b] pos) (dLeI τa τb) := de_cmp fit_intB op_le ha hb (nomark _)
theorem de_ge (ha : DE X a τa) (hb : DE X b τb) : DE X (.Compare a [.GtE] [b] pos) (dGeI τa τb) := de_cmp fit_intB op_ge ha hb (nomark _)
theorem dt_lt (ha : DE X a τa) (hb : DE X b τb) : DT X (.Compare a [.Lt] [b] pos) (dTest (dLtI τa τb)) := dt_cmp fit_intB op_lt ha hb (nomark _)
theorem dt_le (ha : DE X a τa) (hb : DE X b τb) : DT X (.Compare a [.LtE] [b] pos) (dTest (dLeI τa τb)) := dt_cmp fit_intB op_le ha hb (nomark _)
theorem dt_gt (ha : DE X a τa) (hb : DE X b τb) : DT X (.Compare a [.Gt] [b] pos) (dTest (dGtI τa τb)) := dt_cmp fit_intB op_gt ha hb (nomark _)
theorem dt_ge (ha : DE X a τa) (hb : DE X b τb) : DT X (.Compare a [.GtE] [b] pos) (dTest (dGeI τa τb)) := dt_cmp fit_intB op_ge ha hb (nomark _)
theorem dt_in (ha : DE X a τa) (hb : DE X b τb) (hm : behindInMarks .In b = false := by rfl) : DT X (.Compare a [.In] [b] pos) (dTest (dBin (dIn2 fun b => if false then !b else b) τa τb)) := dt_cmp fit_in op_in_seq ha hb hm
theorem dt_nin (ha : DE X a τa) (hb : DE X b τb) (hm : behindInMarks .NotIn b = false := by rfl) : DT X (.Compare a [.NotIn] [b] pos) (dTest (dBin (dIn2 fun b => if true then !b else b) τa τb)) := dt_cmp fit_in op_notIn_seq ha hb hm
def dLen (Γ : Gm) (os : List O) (Kt : O → Gm → Prop) : Prop := match os with
  | [o] => (match vw Γ o with
    | some d => (match itemsOf d with
      | some (_, ds) => Kt (.fz (.int ds.length)) Γ
      | none => False)
    | none => False)
  | _ => False
theorem dq_seq {K : PySem.W.Frag} {H : Hp} {v : V} {d : PyData} {kd : Bool} {ds : List PyData} (h : Dq K H v d) (hi : itemsOf d = some (kd, ds)) : ∃ a vs, v = .ref a ∧ SQ K H kd a vs ∧ DqAll K H vs ds := by
  cases h with
  | lst h1 h2 => cases hi; exact ⟨_, _, rfl, SqL.of h1, h2⟩
  | tup h1 h2 => cases hi; exact ⟨_, _, rfl, h1, h2⟩
  | _ => cases hi
theorem fit_len : FitC X.K (fun xs H Q => ∃ p ys, xs = [.ref p] ∧ (SqL X.K H p ys ∨ SqT X.K H p ys) ∧ Q (.int ys.length) H) dLen := fun G0 Γ T F σ H vs os Kt Q hl R1 h q => by
  unfold dLen at h
  match os, vs, hl with
  | [o], [v], _ =>
    have R1 : Rel X.K G0 ((v, o) :: T) F σ H Γ := R1
    simp only at h
    cases h1 : vw Γ o with
    | none => simp only [h1] at h
    | some d =>
      simp only [h1] at h
      cases hi : itemsOf d with
      | none => simp only [hi] at h
      | some pr =>
        obtain ⟨kd, ds⟩ := pr
        simp only [hi] at h
        obtain ⟨a, vs, rfl, hq, ha⟩ := dq_seq (R1.view h1) hi
        refine ⟨a, vs, rfl, ?_, ?_⟩
        · cases kd with
          | true => exact .inl hq
          | false => exact .inr hq
        · rw [dpAll_len ha]
          exact q _ Γ _ H h (R1.drop.push fun _ => .int _)
  | [], _, _ => exact h.elim
  | _ :: _ :: _, _, _ => exact h.elim
def onI1 (os : List O) (k : Int → Prop) : Prop := match os with
  | [.fz (.int i)] => k i
  | _ => False
theorem onI1_use {K : PySem.W.Frag} {G0 H : Hp} {T F : Ent} {σ : Sl} {Γ : Gm} {vs : List V} {os : List O} {k : Int → Prop} (hl : vs.length = os.length) (R1 : Rel K G0 (vs.zip os ++ T) F σ H Γ) (h : onI1 os k) : ∃ i, vs = [.int i] ∧ k i ∧ Rel K G0 T F σ H Γ := by
  unfold onI1 at h
  split at h
  · rename_i i
    match vs, hl with
    | [v], _ =>
      have R1 : Rel K G0 ((v, .fz (.int i)) :: T) F σ H Γ := R1
      obtain rfl := R.int R1.r
      exact ⟨i, rfl, h, R1.drop⟩
  · exact h.elim
def onI12 (os : List O) (k : Int → Int → Prop) : Prop := match os with
  | [.fz (.int i), .fz (.int j)] => k i j
  | _ => False
theorem onI12_use {K : PySem.W.Frag} {G0 H : Hp} {T F : Ent} {σ : Sl} {Γ : Gm} {vs : List V} {os : List O} {k : Int → Int → Prop} (hl : vs.length = os.length) (R1 : Rel K G0 (vs.zip os ++ T) F σ H Γ) (h : onI12 os k) : ∃ i j, vs = [.int i, .int j] ∧ k i j ∧ Rel K G0 T F σ H Γ := by
  unfold onI12 at h
  split at h
  · rename_i i j
    match vs, hl with
    | [v, w], _ =>
      have R1 : Rel K G0 ((v, .fz (.int i)) :: (w, .fz (.int j)) :: T) F σ H Γ := R1
      obtain rfl := R.int R1.r
      have R2 := R1.drop
      obtain rfl := R.int R2.r
      exact ⟨i, j, rfl, h, R2.drop⟩
  · exact h.elim
theorem fit_abs : FitC X.K (fun xs H Q => ∃ i, xs = [.int i] ∧ Q (.int (if i < 0 then -i else i)) H) (fun Γ os Kt => onI1 os fun i => Kt (.fz (.int (if i < 0 then -i else i))) Γ) := fun G0 Γ T F σ H vs os Kt Q hl R1 h q => by
  obtain ⟨i, rfl, h, R2⟩ := onI1_use hl R1 h
  exact ⟨i, rfl, q _ Γ _ H h (R2.push fun _ => .int _)⟩
theorem fit_max2 : FitC X.K (fun xs H Q => ∃ i j, xs = [.int i, .int j] ∧ Q (.int (if j > i then j else i)) H) (fun Γ os Kt => onI12 os fun i j => Kt (.fz (.int (if j > i then j else i))) Γ) := fun G0 Γ T F σ H vs os Kt Q hl R1 h q => by
  obtain ⟨i, j, rfl, h, R2⟩ := onI12_use hl R1 h
  exact ⟨i, j, rfl, q _ Γ _ H h (R2.push fun _ => .int _)⟩
theorem fit_min2 : FitC X.K (fun xs H Q => ∃ i j, xs = [.int i, .int j] ∧ Q (.int (if j < i then j else i)) H) (fun Γ os Kt => onI12 os fun i j => Kt (.fz (.int (if j < i then j else i))) Γ) := fun G0 Γ T F σ H vs os Kt Q hl R1 h q => by
  obtain ⟨i, j, rfl, h, R2⟩ := onI12_use hl R1 h
  exact ⟨i, j, rfl, q _ Γ _ H h (R2.push fun _ => .int _)⟩
def dInt1 (Γ : Gm) (os : List O) (Kt : O → Gm → Prop) : Prop := match os with
  | [.fz (.int i)] => Kt (.fz (.int i)) Γ
  | [.fz (.bool b)] => Kt (.fz (.int (if b then 1 else 0))) Γ
  | _ => False
theorem fit_int1 : FitC X.K (fun xs H Q => (∃ i, xs = [.int i] ∧ Q (.int i) H) ∨ ∃ k, xs = [.bl k] ∧ Q (.int (if k then 1 else 0)) H) dInt1 := fun G0 Γ T F σ H vs os Kt Q hl R1 h q => by
  unfold dInt1 at h
  split at h
  · rename_i i
    match vs, hl with
    | [v], _ =>
      have R1 : Rel X.K G0 ((v, .fz (.int i)) :: T) F σ H Γ := R1
      obtain rfl := R.int R1.r
      exact .inl ⟨i, rfl, q _ Γ _ H h R1⟩
  · rename_i b
    match vs, hl with
    | [v], _ =>
      have R1 : Rel X.K G0 ((v, .fz (.bool b)) :: T) F σ H Γ := R1
      obtain rfl := R.bl R1.r
      exact .inr ⟨b, rfl, q _ Γ _ H h (R1.drop.push fun _ => .int _)⟩
  · exact h.elim
/-- a list of ints at hand -/
def onInts (Γ : Gm) (os : List O) (k : List Int → Prop) : Prop := match os with
  | [o] => (match vw Γ o with
    | some (.list ds) => ∃ is, ds = is.map PyData.int ∧ k is
    | _ => False)
  | _ => False
theorem onInts_use {K : PySem.W.Frag} {G0 H : Hp} {T F : Ent} {σ : Sl} {Γ : Gm} {vs : List V} {os : List O} {k : List Int → Prop} (hl : vs.length = os.length) (R1 : Rel K G0 (vs.zip os ++ T) F σ H Γ) (h : onInts Γ os k) :
    ∃ a is, vs = [.ref a] ∧ SqL K H a (is.map V.int) ∧ k is ∧ Rel K G0 T F σ H Γ := by
  unfold onInts at h
  match os, vs, hl with
  | [o], [v], _ =>
    have R1 : Rel K G0 ((v, o) :: T) F σ H Γ := R1
    simp only at h
    cases h1 : vw Γ o with
    | none => simp only [h1] at h
    | some d =>
      simp only [h1] at h
      cases d with
      | list ds =>
        obtain ⟨is, rfl, h⟩ := h
        have hd := R1.view h1
        cases hd with
        | lst e1 e2 =>
          have e3 := dpAll_ints_inv e2
          subst e3
          exact ⟨_, is, rfl, SqL.of e1, h, R1.drop⟩
      | _ => exact h.elim
  | [], _, _ => exact h.elim
  | _ :: _ :: _, _, _ => exact h.elim
theorem fit_sorted : FitC X.K (rSortedI X.K) (fun Γ os Kt => onInts Γ os fun is => ∀ js : List Int, js.Perm is → js.Pairwise (· ≤ ·) → Kt (.own (js.map .int)) Γ) := fun G0 Γ T F σ H vs os Kt Q hl R1 h q => by
  obtain ⟨a, is, rfl, hs, h, R2⟩ := onInts_use hl R1 h
  refine ⟨a, is, rfl, hs, fun js p h1 h2 hp => q _ Γ _ _ (h js h1 h2) ?_⟩
  have R3 : Rel X.K G0 T (fzs (js.map V.int) (js.map PyData.int) ++ F) σ H Γ := ints_F R2 js
  exact Rel.newL (M := []) R3 (by rw [List.length_map, List.length_map]) hp
where
  ints_F {K : PySem.W.Frag} {G0 H : Hp} {T F : Ent} {σ : Sl} {Γ : Gm} (r : Rel K G0 T F σ H Γ) : ∀ js : List Int, Rel K G0 T (fzs (js.map V.int) (js.map PyData.int) ++ F) σ H Γ
    | [] => r
    | j :: js => ((ints_F r js).push fun _ => .int j).toF
/-- list(x), tuple(x) -/
def dToL (Γ : Gm) (os : List O) (Kt : O → Gm → Prop) : Prop := match os with
  | [o] => (match vk Γ o with
    | some d => (match itemsOf d with
      | some (_, ds) => Kt (.own ds) Γ
      | none => False)
    | none => False)
  | _ => False
theorem fit_list : FitC X.K (fun xs H Q => ∃ p ys, xs = [.ref p] ∧ (SqL X.K H p ys ∨ SqT X.K H p ys) ∧ ∀ l, H l = none → Q (.ref l) (upd H l (.lst ys))) dToL := fun G0 Γ T F σ H vs os Kt Q hl R1 h q => by
  unfold dToL at h
  match os, vs, hl with
  | [o], [v], _ =>
    have R1 : Rel X.K G0 ((v, o) :: T) F σ H Γ := R1
    simp only at h
    cases h1 : vk Γ o with
    | none => simp only [h1] at h
    | some d =>
      simp only [h1] at h
      cases hi : itemsOf d with
      | none => simp only [hi] at h
      | some pr =>
        obtain ⟨kd, ds⟩ := pr
        simp only [hi] at h
        obtain ⟨a, us, rfl, hq, hl2, _, R2⟩ := R1.kidsF h1 hi
        refine ⟨a, us, rfl, ?_, fun l hp => q _ Γ _ _ h (Rel.newL (M := []) R2.drop hl2 hp)⟩
        cases kd with
        | true => exact .inl hq
        | false => exact .inr hq
  | [], _, _ => exact h.elim
  | _ :: _ :: _, _, _ => exact h.elim
def dToT (Γ : Gm) (os : List O) (Kt : O → Gm → Prop) : Prop := match os with
  | [o] => (match vk Γ o with
    | some d => (match itemsOf d with
      | some (_, ds) => Kt (.fz (.tuple ds)) Γ
      | none => False)
    | none => False)
  | _ => False
theorem fit_tuple : FitC X.K (fun xs H Q => ∃ p ys, xs = [.ref p] ∧ ((SqL X.K H p ys ∧ ∀ l, H l = none → Q (.ref l) (upd H l (.tup ys))) ∨ (SqT X.K H p ys ∧ Q (.ref p) H))) dToT := fun G0 Γ T F σ H vs os Kt Q hl R1 h q => by
  unfold dToT at h
  match os, vs, hl with
  | [o], [v], _ =>
    have R1 : Rel X.K G0 ((v, o) :: T) F σ H Γ := R1
    simp only at h
    cases h1 : vk Γ o with
    | none => simp only [h1] at h
    | some d =>
      simp only [h1] at h
      cases hi : itemsOf d with
      | none => simp only [hi] at h
      | some pr =>
        obtain ⟨kd, ds⟩ := pr
        simp only [hi] at h
        obtain ⟨a, us, rfl, hq, hl2, _, R2⟩ := R1.kidsF h1 hi
        refine ⟨a, us, rfl, ?_⟩
        cases kd with
        | true => exact .inl ⟨hq, fun l hp => q _ Γ _ _ h (Rel.newT R2.drop hl2 hp)⟩
        | false =>
          have ed : d = .tuple ds := by
            cases d with
            | tuple xs => cases hi; rfl
            | list xs => cases hi
            | _ => cases hi
          subst ed
          exact .inr ⟨hq, q _ Γ _ H h ⟨R1.fit, R1.al.tail.cons (by intro _ z; cases z), vk_atom R1 h1 (by intro _ z; cases z)⟩⟩
  | [], _, _ => exact h.elim
  | _ :: _ :: _, _, _ => exact h.elim
/-- all, any of a list of truth values -/
def onBs (Γ : Gm) (os : List O) (k : List Bool → Prop) : Prop := match os with
  | [o] => (match vw Γ o with
    | some (.list ds) => ∃ bs, ds = bs.map PyData.bool ∧ k bs
    | _ => False)
  | _ => False
theorem dqAll_bools {K : PySem.W.Frag} {G : Hp} : ∀ {bs : List Bool} {vs : List V}, DqAll K G vs (bs.map PyData.bool) → vs = bs.map V.bl
  | [], _, h => by cases h; rfl
  | b :: bs, _, h => by
    cases h with
    | cons h1 h2 => cases h1; rw [dqAll_bools h2]; rfl
theorem onBs_use {K : PySem.W.Frag} {G0 H : Hp} {T F : Ent} {σ : Sl} {Γ : Gm} {vs : List V} {os : List O} {k : List Bool → Prop} (hl : vs.length = os.length) (R1 : Rel K G0 (vs.zip os ++ T) F σ H Γ) (h : onBs Γ os k) :
    ∃ a bs, vs = [.ref a] ∧ SqL K H a (bs.map V.bl) ∧ k bs ∧ Rel K G0 T F σ H Γ := by
  unfold onBs at h
  match os, vs, hl with
  | [o], [v], _ =>
    have R1 : Rel K G0 ((v, o) :: T) F σ H Γ := R1
    simp only at h
    cases h1 : vw Γ o with
    | none => simp only [h1] at h
    | some d =>
      simp only [h1] at h
      cases d with
      | list ds =>
        obtain ⟨bs, rfl, h⟩ := h
        have hd := R1.view h1
        cases hd with
        | lst e1 e2 =>
          have e3 := dqAll_bools e2
          subst e3
          exact ⟨_, bs, rfl, SqL.of e1, h, R1.drop⟩
      | _ => exact h.elim
  | [], _, _ => exact h.elim
  | _ :: _ :: _, _, _ => exact h.elim
theorem fit_all : FitC X.K (rAll X.K) (fun Γ os Kt => onBs Γ os fun bs => Kt (.fz (.bool (bs.all id))) Γ) := fun G0 Γ T F σ H vs os Kt Q hl R1 h q => by
  obtain ⟨a, bs, rfl, hs, h, R2⟩ := onBs_use hl R1 h
  exact ⟨a, bs, rfl, hs, q _ Γ _ H h (R2.push fun _ => .bl _)⟩
theorem fit_any : FitC X.K (rAny X.K) (fun Γ os Kt => onBs Γ os fun bs => Kt (.fz (.bool (bs.any id))) Γ) := fun G0 Γ T F σ H vs os Kt Q hl R1 h q => by
  obtain ⟨a, bs, rfl, hs, h, R2⟩ := onBs_use hl R1 h
  exact ⟨a, bs, rfl, hs, q _ Γ _ H h (R2.push fun _ => .bl _)⟩
variable {x : Str} {p : Pos} {r : List V → Hp → VK → Prop} {ρ : Gm → List O → (O → Gm → Prop) → Prop} {id' : String} {Ty : String}
theorem de_b (hf : FitC X.K r ρ) (hc : CallR X (.builtin id') r) (hg : Gl X x) (hm : X.mg x = none) (hv : bootBuiltins x = some (.builtin id')) (ha : DA X (e :: es) τs) (hn : x ≠ "__name__" := by decide) (hdb : (x == ("__debug__" : Str)) = false := by decide)
    (he : starEach (e :: es) X.env = (false, eval e X.env) :: starEach es X.env := by rfl) (hpl : (backTo pos (starEach es X.env)).any (·.1) = false := by rfl) : DE X (.Call (.Name x p) (e :: es) [] pos) (dCB ρ τs) := dCB_of hf (pe_callB hc hg hm hv ha hn hdb he hpl)
theorem de_ty (hf : FitC X.K r ρ) (hc : CallR X (.type Ty) r) (hg : Gl X x) (hm : X.mg x = none) (hv : bootBuiltins x = some (.type Ty)) (ha : DA X (e :: es) τs) (hn : x ≠ "__name__" := by decide) (hdb : (x == ("__debug__" : Str)) = false := by decide)
    (he : starEach (e :: es) X.env = (false, eval e X.env) :: starEach es X.env := by rfl) (hpl : (backTo pos (starEach es X.env)).any (·.1) = false := by rfl) : DE X (.Call (.Name x p) (e :: es) [] pos) (dCB ρ τs) := dCB_of hf (pe_callTy hc hg hm hv ha hn hdb he hpl)
end
end Dl
end
section
namespace Dl
open PySem PySem.Spec PyProof.Rows L2
section
variable {K : PySem.W.Frag} {G0 H H' : Hp} {T F S : Ent} {σ σ' : Sl} {Γ : Gm} {v w : V} {o p : O} {d e : PyData} {i : Nat} {ds es : List PyData}
/-- slot i holds a list of one's own: it is written; items ys at hand may come in, items us may come out -/
theorem Rel.wr {ys : List V} {zs : List PyData} (r : Rel K G0 T (fzs ys zs ++ F) σ H Γ) (hl : ys.length = zs.length) (g : get Γ i = some (.own ds)) :
    ∃ q vs, σ[i]? = some (some (.ref q)) ∧ H q = some (.lst vs) ∧ vs.length = ds.length ∧ ∀ (vs' us : List V) (ds' cs : List PyData), (∀ G, DqAll K G vs ds → DqAll K G ys zs → DqAll K G vs' ds' ∧ DqAll K G us cs) → us.length = cs.length →
      Rel K G0 T (fzs us cs ++ F) σ (upd H q (.lst vs')) (put Γ i (some (.own ds'))) := by
  obtain ⟨v, h1, h2, h3⟩ := r.out g
  have pq : ∀ M N L : Ent, (M ++ (N ++ L)).Perm (N ++ (M ++ L)) := fun M N L => by
    rw [← List.append_assoc, ← List.append_assoc]
    exact List.perm_append_comm.append_right L
  have h4 : R K G0 H ((v, .own ds) :: (fzs ys zs ++ (T ++ (ents σ (put Γ i none) ++ F)))) := by
    refine h2.perm (List.Perm.cons _ ?_)
    exact (List.Perm.append_left T (pq _ _ _)).trans (pq T _ _)
  obtain ⟨q, vs, rfl, e1, e2, e3⟩ := h4.write hl
  refine ⟨q, vs, h1, e1, e2, fun vs' us ds' cs hk hl2 => ?_⟩
  have r5 := e3 vs' us ds' cs hk hl2
  refine Rel.back (σ := σ) (v := .ref q) (o := .own ds') h3 r.al (get_lt g) h1 ?_
  have r6 : R K G0 (upd H q (.lst vs')) (fzs ys zs ++ ((V.ref q, .own ds') :: (fzs us cs ++ (T ++ (ents σ (put Γ i none) ++ F))))) := r5.perm (by
    exact (List.Perm.cons _ (pq (fzs us cs) (fzs ys zs) _)).trans (List.perm_middle (l₁ := fzs ys zs) (l₂ := fzs us cs ++ (T ++ (ents σ (put Γ i none) ++ F))) (a := (V.ref q, O.own ds'))).symm)
  refine r6.dropL.perm (List.Perm.cons _ ?_)
  exact (pq (fzs us cs) T _).trans (List.Perm.append_left T (pq (fzs us cs) _ _))
end
section
variable {X : Cx} {pos : Pos} {e : Expr} {es : List Expr} {τ τa τb τc : TEd} {τs : TAd} {a b c : Expr} {k : Nat}
def FitM (K : PySem.W.Frag) (i : Nat) (r : V → List V → Hp → VK → Prop) (ρ : Gm → List O → (O → Gm → Prop) → Prop) : Prop :=
  ∀ (G0 : Hp) (Γ : Gm) (T F : Ent) (σ : Sl) (H : Hp) (v : V) (vs : List V) (os : List O) (Kt : O → Gm → Prop) (Q : VK), σ[i]? = some (some v) → vs.length = os.length → Rel K G0 (vs.zip os ++ T) F σ H Γ → ρ Γ os Kt →
    (∀ z Γ' u H', Kt z Γ' → Rel K G0 ((u, z) :: T) F σ H' Γ' → Q u H') → r v vs H Q
def isOwn (o : Option O) : Prop := match o with
  | some (.own _) => True
  | _ => False
theorem isOwn_use {o : Option O} (h : isOwn o) : ∃ ds, o = some (.own ds) := by
  unfold isOwn at h
  split at h
  · exact ⟨_, rfl⟩
  · exact h.elim
def dMeth (i : Nat) (ρ : Gm → List O → (O → Gm → Prop) → Prop) (t : TAd) : TEd := fun Γ Kt => isOwn (get Γ i) ∧ t Γ fun os Γ1 => ρ Γ1 os Kt
theorem dMeth_of {i : Nat} {r : V → List V → Hp → VK → Prop} {ρ : Gm → List O → (O → Gm → Prop) → Prop} {e : Expr} (hf : FitM X.K i r ρ) (h : PE X e (tBM X.K "list" r (tVar i) (liftA X.K τs))) : DE X e (dMeth i ρ τs) :=
  peI h fun σ H Q ⟨G0, Γ, T, F, Kt, R1, ⟨k0, k⟩, q⟩ => by
    obtain ⟨ds, g⟩ := isOwn_use k0
    obtain ⟨v, h1, h2, _⟩ := R1.out g
    obtain ⟨a, vs, rfl, e1, _⟩ := h2.itemsO
    exact ⟨_, h1, .inl ⟨rfl, vs, SqL.of e1⟩, G0, Γ, T, F, _, R1, k, fun os Γ1 vs H1 k1 hl R2 => hf G0 Γ1 T F σ H1 _ vs os Kt Q h1 hl R2 k1 q⟩
def rhoApp (i : Nat) (Γ : Gm) (os : List O) (Kt : O → Gm → Prop) : Prop := match os with
  | [o] => esc Γ o fun d Γ2 => (match get Γ2 i with
    | some (.own ds) => ds.length < sizeLine ∧ Kt (.fz .none) (put Γ2 i (some (.own (ds ++ [d]))))
    | _ => False)
  | _ => False
theorem own_of {o : Option O} {A : List PyData → Prop} (h : match o with | some (.own ds) => A ds | _ => False) : ∃ ds, o = some (.own ds) ∧ A ds := by
  split at h
  · exact ⟨_, rfl, h⟩
  · exact h.elim
theorem fit_append {i : Nat} : FitM X.K i rAppend (rhoApp i) := fun G0 Γ T F σ H v vs os Kt Q hv hl R1 h q => by
  unfold rhoApp at h
  match os, vs, hl with
  | [o], [u], _ =>
    have R1 : Rel X.K G0 ((u, o) :: T) F σ H Γ := R1
    obtain ⟨d, Γ2, h2, R2⟩ := R1.escape h
    obtain ⟨ds, g, h3, h4⟩ := own_of (A := fun ds => ds.length < sizeLine ∧ Kt (.fz .none) (put Γ2 i (some (.own (ds ++ [d]))))) h2
    obtain ⟨p, ws, e1, e2, e3, e4⟩ := Rel.wr (ys := [u]) (zs := [d]) (F := F) R2.toF rfl g
    rw [hv] at e1
    cases e1
    refine ⟨p, ws, u, rfl, rfl, e2, by rw [e3]; exact h3, q _ _ _ _ h4 (Rel.push (e4 (ws ++ [u]) [] (ds ++ [d]) [] (fun G a b => ⟨dpAll_app a b, .nil⟩) rfl) fun _ => .non)⟩
  | [], _, _ => exact h.elim
  | _ :: _ :: _, _, _ => exact h.elim
def rhoPopAt (i : Nat) (Γ : Gm) (os : List O) (Kt : O → Gm → Prop) : Prop := match os with
  | [.fz (.int k)] => (match get Γ i with
    | some (.own ds) => 0 ≤ k ∧ k < ds.length ∧ k < 2 ^ 63 ∧ Kt (.fz (ds.getD k.toNat .none)) (put Γ i (some (.own (ds.eraseIdx k.toNat))))
    | _ => False)
  | _ => False
theorem fit_popAt {i : Nat} : FitM X.K i rPopAt (rhoPopAt i) := fun G0 Γ T F σ H v vs os Kt Q hv hl R1 h q => by
  unfold rhoPopAt at h
  split at h
  · rename_i k
    match vs, hl with
    | [u], _ =>
      have R1 : Rel X.K G0 ((u, .fz (.int k)) :: T) F σ H Γ := R1
      obtain rfl := R.int R1.r
      obtain ⟨ds, g, h1, h2, h3, h4⟩ := own_of (A := fun ds => 0 ≤ k ∧ k < ds.length ∧ k < 2 ^ 63 ∧ Kt (.fz (ds.getD k.toNat .none)) (put Γ i (some (.own (ds.eraseIdx k.toNat))))) h
      obtain ⟨p, ws, e1, e2, e3, e4⟩ := Rel.wr (ys := []) (zs := []) (F := F) R1.drop rfl g
      rw [hv] at e1
      cases e1
      have hk : k.toNat < ws.length := by omega
      have hs : seqIndex? k ws.length = some k.toNat := seqIndex_of h1 (by omega)
      refine ⟨p, ws, k, k.toNat, ws[k.toNat], rfl, rfl, e2, by omega, h3, hs, List.getElem?_eq_getElem hk, ?_⟩
      have R3 := e4 (ws.eraseIdx k.toNat) [ws[k.toNat]] (ds.eraseIdx k.toNat) [ds.getD k.toNat .none] (fun G a b => ⟨dpAll_erase _ a, .cons ?_ .nil⟩) rfl
      · exact q _ _ _ _ h4 R3.ofF
      · have hd : ds[k.toNat]? = some (ds[k.toNat]'(by omega)) := List.getElem?_eq_getElem _
        obtain ⟨x, hx, hx2⟩ := dpAll_get a hd
        rw [List.getElem?_eq_getElem hk] at hx
        cases hx
        rw [List.getD_eq_getElem?_getD, hd]
        exact hx2
  · exact h.elim
theorem de_append (i : Nat) {x : Str} {ap cp p0 : Pos} {e : Expr} (hv : PE X (.Name x p0) (tVar i)) (ha : DA X [e] τs) (h1 : attributeBase (.Name x p0) "append" X.env (eval (.Name x p0) X.env) = eval (.Name x p0) X.env := by rfl) (h3 : (ap.endLine == cp.line) = true := by rfl)
    (h2 : ((backTo cp (starEach [e] X.env)).all (fun z => !z.1) && (backToKw cp (keywordEach [] X.env)).all (fun z => z.1.isSome) && decide (([e].length + ([] : List Keyword).length + if ([] : List Keyword).isEmpty = true then 0 else 1) < 30)) = true := by rfl)
    (h4 : starEach [e] X.env = (false, eval e X.env) :: starEach [] X.env := by rfl) : DE X (.Call (.Attribute (.Name x p0) "append" ap) [e] [] cp) (dMeth i (rhoApp i) τs) :=
  dMeth_of fit_append (pe_bm PySem.F.plainAttrs_list PySem.F.slot_list_append PySem.F.type_list_append mt_append hv ha h1 h2 h3 h4)
theorem de_popAt (i : Nat) {x : Str} {ap cp p0 : Pos} {e : Expr} (hv : PE X (.Name x p0) (tVar i)) (ha : DA X [e] τs) (h1 : attributeBase (.Name x p0) "pop" X.env (eval (.Name x p0) X.env) = eval (.Name x p0) X.env := by rfl) (h3 : (ap.endLine == cp.line) = true := by rfl)
    (h2 : ((backTo cp (starEach [e] X.env)).all (fun z => !z.1) && (backToKw cp (keywordEach [] X.env)).all (fun z => z.1.isSome) && decide (([e].length + ([] : List Keyword).length + if ([] : List Keyword).isEmpty = true then 0 else 1) < 30)) = true := by rfl)
    (h4 : starEach [e] X.env = (false, eval e X.env) :: starEach [] X.env := by rfl) : DE X (.Call (.Attribute (.Name x p0) "pop" ap) [e] [] cp) (dMeth i (rhoPopAt i) τs) :=
  dMeth_of fit_popAt (pe_bm PySem.F.plainAttrs_list PySem.F.slot_list_pop PySem.F.type_list_pop mt_popAt hv ha h1 h2 h3 h4)
/-- x[k] = e, x a list of one's own in slot i -/
def dStore (i : Nat) (τi τ : TEd) : TSd := fun E Γ => τ Γ fun o Γ1 => esc Γ1 o fun d Γ2 => isOwn (get Γ2 i) ∧ τi Γ2 fun p Γ3 => match p with
  | .fz (.int k) => (match get Γ3 i with
    | some (.own ds) => (match ixN ds.length k with
      | some m => E.nx (put Γ3 i (some (.own (ds.set m d))))
      | none => False)
    | _ => False)
  | _ => False
theorem ds_store (i : Nat) {x : Str} {p0 p1 : Pos} {ie : Expr} (hv : PE X (.Name x p0) (tVar i)) (hi : DE X ie τa) (he : DE X e τ)
    (ha : ∀ v, assign (.Subscript (.Name x p0) ie p1) X.env v = (do
      let ov ← holding [v] (eval (.Name x p0) X.env)
      let iv ← holding [v, ov] (eval ie X.env)
      standAt p1
      holding [v, ov, iv] (setItem ov iv v)
      release [v, ov, iv] []) := by intro _; rfl) (hs : swapsWithSole [.Subscript (.Name x p0) ie p1] e pos.line X.env = pure false := by rfl) (hw : swappedStores [.Subscript (.Name x p0) ie p1] e X.env = pure none := by rfl)
    (h1 : (assignEach [.Subscript (.Name x p0) ie p1] X.env).map (·.2) = [assign (.Subscript (.Name x p0) ie p1) X.env] := by rfl) : DS X (.Assign [.Subscript (.Name x p0) ie p1] e pos) (dStore i τa τ) :=
  psI (ps_asg he (pg_sub hv hi set_list ha) hs hw h1) fun D σ H ⟨G0, Γ, F, E, R1, k, q⟩ => ⟨G0, Γ, [], F, _, R1, k, fun o Γ1 v H1 k1 R2 => by
    obtain ⟨d, Γ2, ⟨k0, k2⟩, R3⟩ := R2.escape k1
    obtain ⟨ds0, g0⟩ := isOwn_use k0
    obtain ⟨u, hu, _, _⟩ := R3.out g0
    refine ⟨u, hu, G0, Γ2, [(v, .fz d)], F, _, R3, k2, fun p Γ3 w H3 k3 R4 => ?_⟩
    split at k3
    · rename_i j
      obtain ⟨ds, g, k4⟩ := own_of (A := fun ds => match ixN ds.length j with | some m => E.nx (put Γ3 i (some (.own (ds.set m d)))) | none => False) k3
      obtain rfl := R.int R4.r
      obtain ⟨p, ws, e1, e2, e3, e4⟩ := Rel.wr (ys := [v]) (zs := [d]) (F := F) R4.drop.toF rfl g
      rw [hu] at e1
      cases e1
      cases hx : ixN ds.length j with
      | none => rw [hx] at k4; exact k4.elim
      | some m =>
        rw [hx] at k4
        refine ⟨p, ws, j, m, rfl, rfl, e2, by rw [e3]; exact hx, q.nx _ _ _ k4 (e4 (ws.set m v) [] (ds.set m d) [] (fun G a b => ⟨?_, .nil⟩) rfl)⟩
        cases b with
        | cons b1 b2 => exact dpAll_set b1 m a
    · exact k3.elim⟩
/-- [..] * n -/
def dRep2 (Γ : Gm) (o p : O) (Kt : O → Gm → Prop) : Prop := match vk Γ o, p with
  | some (.list ds), .fz (.int k) => (-(2 ^ 63) ≤ k ∧ k < 2 ^ 63 ∧ ds.length * k.toNat ≤ sizeLine) ∧ Kt (.own (List.replicate k.toNat ds).flatten) Γ
  | _, _ => False
theorem dqAll_rep {K : PySem.W.Frag} {G : Hp} {vs : List V} {ds : List PyData} (h : DqAll K G vs ds) : ∀ n : Nat, DqAll K G (List.replicate n vs).flatten (List.replicate n ds).flatten
  | 0 => .nil
  | n + 1 => dpAll_app h (dqAll_rep h n)
theorem fit_rep {K : PySem.W.Frag} : Fit2 K rRep dRep2 := fun G0 Γ T F σ H v w o p Kt Q R1 h q => by
  unfold dRep2 at h
  split at h
  · rename_i ds j h1
    obtain rfl := R.int R1.r
    obtain ⟨a, vs, rfl, _, hl, t1, R2⟩ := R1.drop.kidsF h1 rfl
    obtain ⟨⟨b1, b2, b3⟩, h2⟩ := h
    refine ⟨a, j, vs, rfl, rfl, t1 rfl, b1, b2, by rw [hl]; exact b3, fun l hp => q _ Γ _ _ h2 ?_⟩
    obtain ⟨G, g, s0, s1, ha, hb, nd, hn⟩ := (R.fzs_iff hl).mp R2.drop.unF
    have hl3 := dpAll_len (dqAll_rep ha j.toNat)
    have r3 : R K G0 H (fzs (List.replicate j.toNat vs).flatten (List.replicate j.toNat ds).flatten ++ (T ++ (ents σ Γ ++ F))) := (R.fzs_iff hl3).mpr ⟨G, g, s0, s1, dqAll_rep ha _, hb, nd, hn⟩
    exact ⟨R1.fit, R1.drop.drop.al.cons (by intro _ z; cases z), R.list r3 hl3 hp⟩
  · exact h.elim
theorem de_rep (ha : DE X a τa) (hb : DE X b τb) : DE X (.BinOp a .Mult b pos) (dBin dRep2 τa τb) := de_op fit_rep op_rep ha hb
abbrev TPd := Gm → (Option Int → Gm → Prop) → Prop
def liftP (K : PySem.W.Frag) (τ : TPd) : TO := fun σ H Q => ∃ G0 Γ T F Kt, Rel K G0 T F σ H Γ ∧ τ Γ Kt ∧ ∀ l Γ' H', Kt l Γ' → Rel K G0 T F σ H' Γ' → Q l H'
abbrev DP (X : Cx) (e : Option Expr) (τ : TPd) : Prop := PO X e (liftP X.K τ)
theorem poI {e : Option Expr} {t t' : TO} (h : PO X e t) (f : ∀ σ H Q, t' σ H Q → t σ H Q) : PO X e t' := ⟨fun pins s σ H Q I q => h.run pins s σ H Q I (f σ H Q q)⟩
def dNoP : TPd := fun Γ Kt => Kt none Γ
def dPart (τ : TEd) : TPd := fun Γ Kt => τ Γ fun o Γ1 => match o with
  | .fz (.int i) => Kt (some i) Γ1
  | _ => False
theorem dp_none : DP X none dNoP := poI po_none fun σ H Q ⟨G0, Γ, T, F, Kt, R1, k, q⟩ => q none Γ H k R1
theorem dp_some (h : DE X e τ) : DP X (some e) (dPart τ) := poI (po_some h) fun σ H Q ⟨G0, Γ, T, F, Kt, R1, k, q⟩ => ⟨G0, Γ, T, F, _, R1, k, fun o Γ1 v H1 k1 R2 => by
  split at k1
  · obtain rfl := R.int R2.r
    exact ⟨_, rfl, q _ Γ1 H1 k1 R2.drop⟩
  · exact k1.elim⟩
def cutD (ds : List PyData) (lo hi : Option Int) : List PyData := (ds.drop (HT.sIx ds.length 0 lo)).take (HT.sIx ds.length ds.length hi - HT.sIx ds.length 0 lo)
theorem cut_all (ds : List PyData) {lo hi : Option Int} (h1 : HT.sIx ds.length 0 lo = 0) (h2 : HT.sIx ds.length ds.length hi = ds.length) : cutD ds lo hi = ds := by
  unfold cutD
  rw [h1, h2, List.drop_zero, Nat.sub_zero, List.take_length]
def dSlice (τ : TEd) (tl th : TPd) : TEd := fun Γ Kt => τ Γ fun o Γ1 => tl Γ1 fun lo Γ2 => th Γ2 fun hi Γ3 => match vk Γ3 o with
  | some (.list ds) => Kt (.own (cutD ds lo hi)) Γ3
  | some (.tuple ds) => Kt (.fz (.tuple (cutD ds lo hi))) Γ3
  | _ => False
variable {tl th : TPd} {lo hi : Option Expr} {p2 : Pos}
theorem de_slice (he : DE X e τ) (hl : DP X lo tl) (hh : DP X hi th) : DE X (.Subscript e (.Slice lo hi none p2) pos) (dSlice τ tl th) := peI (pe_slice (SlR.or sl_list sl_tupA) he hl hh) fun σ H Q ⟨G0, Γ, T, F, Kt, R1, k, q⟩ =>
  ⟨G0, Γ, T, F, _, R1, k, fun o Γ1 v H1 k1 R2 => ⟨G0, Γ1, (v, o) :: T, F, _, R2, k1, fun l Γ2 H2 k2 R3 => ⟨G0, Γ2, (v, o) :: T, F, _, R3, k2, fun u Γ3 H3 k3 R4 => by
    have cutdq : ∀ {vs : List V} {ds : List PyData}, vs.length = ds.length → Rel X.K G0 T (fzs vs ds ++ F) σ H3 Γ3 → Rel X.K G0 T (fzs (cutV vs l u) (cutD ds l u) ++ F) σ H3 Γ3 ∧ (cutV vs l u).length = (cutD ds l u).length := fun {vs ds} hl r => by
      obtain ⟨G, g, s0, s1, ha, hb, nd, hn⟩ := (R.fzs_iff hl).mp r.unF
      have hc : DqAll X.K G (cutV vs l u) (cutD ds l u) := by
        unfold cutV cutD
        rw [hl]
        exact dpAll_take _ (dpAll_drop _ ha)
      have hl2 := dpAll_len hc
      refine ⟨⟨r.fit, r.al, ((R.fzs_iff hl2).mpr ⟨G, g, s0, s1, hc, hb, nd, hn⟩).perm ?_⟩, hl2⟩
      have pq : ∀ M N L : Ent, (M ++ (N ++ L)).Perm (N ++ (M ++ L)) := fun M N L => by
        rw [← List.append_assoc, ← List.append_assoc]
        exact List.perm_append_comm.append_right L
      exact (pq _ T _).trans (List.Perm.append_left T (pq _ _ F))
    split at k3
    · rename_i ds h1
      obtain ⟨a, vs, rfl, hq, hl, _, R5⟩ := R4.kidsF h1 rfl
      obtain ⟨R6, hl6⟩ := cutdq hl R5.drop
      exact .inl ⟨a, vs, rfl, hq, fun n hn => q _ Γ3 _ _ k3 (Rel.newL (M := []) R6 hl6 hn)⟩
    · rename_i ds h1
      obtain ⟨a, vs, rfl, hq, hl, _, R5⟩ := R4.kidsF h1 rfl
      obtain ⟨R6, hl6⟩ := cutdq hl R5.drop
      refine .inr ⟨a, vs, rfl, hq, fun ⟨z1, z2⟩ => ?_, fun _ n hn => q _ Γ3 _ _ k3 (Rel.newT R6 hl6 hn)⟩
      rw [hl] at z1 z2
      rw [cut_all ds z1 z2] at k3
      exact q _ Γ3 _ H3 k3 ⟨R4.fit, R4.al.tail.cons (by intro _ z; cases z), vk_atom R4 h1 (by intro _ z; cases z)⟩
    · exact k3.elim⟩⟩⟩
end
end Dl
end
section
namespace Dl
open PySem PySem.Spec PyProof.Rows L2
def wipeG (Γ : Gm) : List Nat → Gm
  | [] => Γ
  | v :: vs => put (wipeG Γ vs) v none
theorem fit_put_none : ∀ {σ : Sl} {Γ : Gm} {i : Nat}, Fit σ Γ → Fit (σ.set i none) (put Γ i none) ∧ ents (σ.set i none) (put Γ i none) = ents σ (put Γ i none)
  | [], [], _, _ => ⟨trivial, rfl⟩
  | none :: σ, none :: Γ, 0, f => ⟨f, rfl⟩
  | some w :: σ, none :: Γ, 0, f => ⟨f, rfl⟩
  | some w :: σ, some u :: Γ, 0, f => ⟨f, rfl⟩
  | none :: σ, none :: Γ, i + 1, f => fit_put_none (σ := σ) (Γ := Γ) (i := i) f
  | some w :: σ, none :: Γ, i + 1, f => fit_put_none (σ := σ) (Γ := Γ) (i := i) f
  | some w :: σ, some u :: Γ, i + 1, f => by
    obtain ⟨h1, h2⟩ := fit_put_none (σ := σ) (Γ := Γ) (i := i) f
    exact ⟨h1, congrArg ((w, u) :: ·) h2⟩
  | none :: _, some _ :: _, _, f => f.elim
  | [], _ :: _, _, f => f.elim
  | none :: _, [], _, f => f.elim
  | some _ :: _, [], _, f => f.elim
theorem fit_unset : ∀ {σ : Sl} {Γ : Gm} {i : Nat}, Fit (σ.set i none) Γ → Fit σ Γ ∧ ents σ Γ = ents (σ.set i none) Γ
  | [], Γ, i, f => ⟨f, rfl⟩
  | x :: σ, none :: Γ, 0, f => by
    have f : Fit σ Γ := f
    cases x <;> exact ⟨f, rfl⟩
  | x :: σ, some u :: Γ, 0, f => f.elim
  | x :: σ, [], 0, f => f.elim
  | none :: σ, none :: Γ, i + 1, f => fit_unset (σ := σ) (Γ := Γ) (i := i) f
  | some w :: σ, none :: Γ, i + 1, f => fit_unset (σ := σ) (Γ := Γ) (i := i) f
  | some w :: σ, some u :: Γ, i + 1, f => by
    obtain ⟨h1, h2⟩ := fit_unset (σ := σ) (Γ := Γ) (i := i) f
    exact ⟨h1, congrArg ((w, u) :: ·) h2⟩
  | none :: σ, some u :: Γ, i + 1, f => f.elim
  | none :: σ, [], i + 1, f => f.elim
  | some w :: σ, [], i + 1, f => f.elim
theorem fit_unwipe : ∀ {vs : List Nat} {σ : Sl} {Γ : Gm}, Fit (wipe σ vs) Γ → Fit σ Γ ∧ ents σ Γ = ents (wipe σ vs) Γ
  | [], _, _, f => ⟨f, rfl⟩
  | v :: vs, σ, Γ, f => by
    obtain ⟨h1, h2⟩ := fit_unset (σ := wipe σ vs) (Γ := Γ) (i := v) f
    obtain ⟨h3, h4⟩ := fit_unwipe (vs := vs) h1
    exact ⟨h3, h4.trans h2⟩
theorem wipe_in {σ : Sl} {i : Nat} : ∀ {vs : List Nat}, i ∈ vs → (wipe σ vs)[i]? = if i < σ.length then some none else none
  | v :: vs, h => by
    unfold wipe
    rw [List.getElem?_set]
    by_cases hv : v = i
    · rw [if_pos hv, wipe_length]
      subst hv
      rfl
    · rw [if_neg hv]
      exact wipe_in (List.mem_of_ne_of_mem (Ne.symm hv) h)
theorem agree_wipe {ws vs : List Nat} {σ σ' : Sl} (a : Agree ws σ σ') (h : ∀ i ∈ ws, i ∈ vs) : wipe σ' vs = wipe σ vs := by
  apply List.ext_getElem?
  intro i
  by_cases hi : i ∈ vs
  · rw [wipe_in hi, wipe_in hi, a.1]
  · rw [wipe_out hi, wipe_out hi]
    exact a.2 i fun z => hi (h i z)
section
variable {K : PySem.W.Frag} {G0 H H' : Hp} {T F S : Ent} {σ σ' : Sl} {Γ : Gm} {v w : V} {o p : O} {d e : PyData} {i : Nat} {ds es : List PyData}
theorem Rel.wiped (r : Rel K G0 [] F σ H Γ) : ∀ vs : List Nat, Rel K G0 [] F (wipe σ vs) H (wipeG Γ vs)
  | [] => r
  | v :: vs => by
    have r1 := Rel.wiped r vs
    have r2 := r1.forget v
    obtain ⟨h1, h2⟩ := fit_put_none (i := v) r1.fit
    refine ⟨h1, fun _ _ m => by simp at m, ?_⟩
    show R K G0 H ([] ++ (ents ((wipe σ vs).set v none) (put (wipeG Γ vs) v none) ++ F))
    rw [h2]
    exact r2.r
theorem Rel.allF : ∀ {T F : Ent}, Rel K G0 T F σ H Γ → Rel K G0 [] (T ++ F) σ H Γ
  | [], _, r => r
  | (v, o) :: T, F, r => by
    have r1 := Rel.allF (T := T) (F := (v, o) :: F) (Rel.toF' r)
    refine ⟨r1.fit, r1.al, r1.r.perm ?_⟩
    exact List.Perm.append_left _ (List.Perm.append_left _ List.perm_middle)
theorem Rel.unallF (a : AlOk σ T) (r : Rel K G0 [] (T ++ F) σ H Γ) : Rel K G0 T F σ H Γ := by
  refine ⟨r.fit, a, r.r.perm ?_⟩
  show (ents σ Γ ++ (T ++ F)).Perm (T ++ (ents σ Γ ++ F))
  rw [← List.append_assoc, ← List.append_assoc]
  exact List.perm_append_comm.append_right F
end
section
variable {X : Cx} {pos : Pos} {e : Expr} {es : List Expr} {τ τa τb τc : TEd} {τs : TAd} {a b c : Expr} {k : Nat}
abbrev DTs (X : Cx) (ifs : List Expr) (τ : TTd) : Prop := PTs X ifs (liftT X.K τ)
def dYes : TTd := fun Γ Kt => Kt true Γ
theorem dts_nil : DTs X [] dYes := ⟨fun pins s σ H Q I ⟨G0, Γ, T, F, Kt, R1, k, q⟩ => pts_nil.run pins s σ H Q I (q true Γ H k R1)⟩
theorem dts_one {c : Expr} {τ : TTd} (h : DT X c τ) : DTs X [c] τ := pts_one h
def dLc (τi : TId) (γ : TGd) (tt : TTd) (te : TEd) (vs : List Nat) : TEd := fun Γ Kt => τi Γ fun n it Γ1 => ∃ Iv : Nat → List PyData → Gm → Prop, Iv 0 [] (wipeG Γ1 vs) ∧
  (∀ i acc Γ2, i < n → Iv i acc Γ2 → γ (it i) Γ2 fun Γ3 => tt Γ3 fun b Γ4 => (b = true → te Γ4 fun o Γ5 => esc Γ5 o fun d Γ6 => acc.length < sizeLine ∧ Iv (i + 1) (acc ++ [d]) (wipeG Γ6 vs)) ∧ (b = false → Iv (i + 1) acc (wipeG Γ4 vs))) ∧
  ∀ acc Γ2, Iv n acc Γ2 → Kt (.own acc) Γ2
variable {tg iter : Expr} {elt : Expr} {ifs : List Expr} {scope : Scope} {own : List (Str × Nat)} {ws : List Nat} {τi : TId} {γ : TGd} {tt : TTd} {te : TEd}
theorem lc_read {K : PySem.W.Frag} {vs : List Nat} {σ : Sl} {H : Hp} {Q : VK} (hw : ∀ i ∈ ws, i ∈ vs) (h : liftE K (dLc τi γ tt te vs) σ H Q) : tLc (liftI K τi) (liftG K ws γ) (liftT K tt) (liftE K te) vs σ H Q := by
  obtain ⟨G0, Γ, T, F, Kt, R1, k, q⟩ := h
  refine ⟨G0, Γ, T, F, _, R1, k, fun n it Γ1 J S H1 ⟨Iv, i0, is, ie⟩ fd R2 D hD => ?_⟩
  have r0 : Rel K G0 [] (T ++ (S ++ F)) (wipe σ vs) H1 (wipeG Γ1 vs) := (Rel.allF R2).wiped vs
  have r1 : Rel K G0 [] ((.ref D, .own []) :: (T ++ (S ++ F))) (wipe σ vs) (upd H1 D (.lst [])) (wipeG Γ1 vs) := (Rel.newL (M := []) (ds := []) (vs := []) (F := T ++ (S ++ F)) r0 rfl hD).toF'
  have rS : ∀ {M : Ent} {σ H Γ}, Rel K G0 [] (M ++ (T ++ (S ++ F))) σ H Γ → R K G0 H (S ++ (M ++ (T ++ (ents σ Γ ++ F)))) := fun {M σ H Γ} r => r.r.perm (by
    have pq : ∀ M N L : Ent, (M ++ (N ++ L)).Perm (N ++ (M ++ L)) := fun M N L => by
      rw [← List.append_assoc, ← List.append_assoc]
      exact List.perm_append_comm.append_right L
    show (ents σ Γ ++ (M ++ (T ++ (S ++ F)))).Perm (S ++ (M ++ (T ++ (ents σ Γ ++ F))))
    refine (pq (ents σ Γ) M _).trans ?_
    refine (List.Perm.append_left M ((pq (ents σ Γ) T _).trans (List.Perm.append_left T (pq (ents σ Γ) S F)))).trans ?_
    refine (List.Perm.append_left M (pq T S _)).trans (pq M S _))
  refine ⟨fun i m H => m = n - i ∧ i ≤ n ∧ ∃ acc Γ, Iv i acc Γ ∧ Rel K G0 [] ((.ref D, .own acc) :: (T ++ (S ++ F))) (wipe σ vs) H Γ, ⟨n, rfl, Nat.zero_le _, [], _, i0, r1⟩, ?_⟩
  rintro i m H2 ⟨rfl, hle, acc, Γ2, iv, R3⟩
  by_cases hlt : i < n
  · obtain ⟨g1, g2⟩ := fd.step (rS (M := [(.ref D, .own acc)]) R3) hlt
    refine .inr ⟨g1, fun H' => ∃ acc Γ, Iv (i + 1) acc Γ ∧ Rel K G0 [] ((.ref D, .own acc) :: (T ++ (S ++ F))) (wipe σ vs) H' Γ, fun H' h => ⟨n - (i + 1), by omega, rfl, hlt, h⟩, fun x H' hy => ?_⟩
    have r4 := g2 x H' hy
    have R4 : Rel K G0 [] ((x, .fz (it i)) :: ((.ref D, .own acc) :: (T ++ (S ++ F)))) (wipe σ vs) H' Γ2 := ⟨R3.fit, R3.al, r4.perm (by
      have pq : ∀ M N L : Ent, (M ++ (N ++ L)).Perm (N ++ (M ++ L)) := fun M N L => by
        rw [← List.append_assoc, ← List.append_assoc]
        exact List.perm_append_comm.append_right L
      show ((x, O.fz (it i)) :: (S ++ ([(V.ref D, O.own acc)] ++ (T ++ (ents (wipe σ vs) Γ2 ++ F))))).Perm (ents (wipe σ vs) Γ2 ++ ([(x, O.fz (it i))] ++ ([(V.ref D, O.own acc)] ++ (T ++ (S ++ F)))))
      refine List.Perm.trans ?_ (pq [(x, O.fz (it i))] (ents (wipe σ vs) Γ2) _)
      refine List.Perm.cons _ ?_
      refine (pq S [(V.ref D, O.own acc)] _).trans ?_
      refine List.Perm.trans ?_ (pq [(V.ref D, O.own acc)] (ents (wipe σ vs) Γ2) _)
      refine List.Perm.cons _ ?_
      refine (pq S T _).trans ?_
      refine List.Perm.trans ?_ (pq T (ents (wipe σ vs) Γ2) _)
      exact List.Perm.append_left T (pq S _ F))⟩
    refine ⟨G0, Γ2, (.ref D, .own acc) :: (T ++ (S ++ F)), it i, _, R4, is i acc Γ2 hlt iv, fun Γ3 σ3 H3 k3 ag R5 => ⟨?_, G0, Γ3, [], _, _, R5, k3, fun b Γ4 H4 k4 R6 => ?_⟩⟩
    · rw [agree_wipe ag hw]
      exact wipe_wipe σ vs
    · have hw3 : wipe σ3 vs = wipe σ vs := by rw [agree_wipe ag hw]; exact wipe_wipe σ vs
      cases b with
      | false =>
        refine iteF ?_
        refine ⟨acc, _, k4.2 rfl, ?_⟩
        rw [← hw3]
        exact Rel.wiped R6 vs
      | true =>
        refine iteT ?_
        refine ⟨G0, Γ4, [], _, _, R6, k4.1 rfl, fun o Γ5 y H5 k5 R7 => ?_⟩
        obtain ⟨d, Γ6, ⟨z1, k6⟩, R8⟩ := R7.escape k5
        have r9 : R K G0 H5 ((.ref D, .own acc) :: (fzs [y] [d] ++ (ents σ3 Γ6 ++ (T ++ (S ++ F))))) := R8.r.perm (by
          show ((y, O.fz d) :: (ents σ3 Γ6 ++ ((V.ref D, O.own acc) :: (T ++ (S ++ F))))).Perm ((V.ref D, O.own acc) :: (y, O.fz d) :: (ents σ3 Γ6 ++ (T ++ (S ++ F))))
          exact (List.Perm.cons _ List.perm_middle).trans (.swap _ _ _))
        obtain ⟨p, us, e0, e1, e2, e3⟩ := r9.write rfl
        cases e0
        refine ⟨us, e1, by rw [e2]; exact z1, acc ++ [d], _, k6, ?_⟩
        have r10 := e3 (us ++ [y]) [] (acc ++ [d]) [] (fun G a b => ⟨dpAll_app a b, .nil⟩) rfl
        have R9 : Rel K G0 [] ((.ref D, .own (acc ++ [d])) :: (T ++ (S ++ F))) σ3 (upd H5 D (.lst (us ++ [y]))) Γ6 := ⟨R8.fit, fun _ _ m => by simp at m, (R.tail (v := y) (o := .fz d) (L := (.ref D, .own (acc ++ [d])) :: (ents σ3 Γ6 ++ (T ++ (S ++ F)))) (r10.perm (.swap _ _ _))).perm (by
          exact List.perm_middle.symm)⟩
        rw [← hw3]
        exact R9.wiped vs
  · obtain rfl : i = n := by omega
    have fr := fd.stop (rS (M := [(.ref D, .own acc)]) R3)
    refine .inl ⟨fr, ?_⟩
    obtain ⟨f1, f2⟩ := fit_unwipe R3.fit
    have R4 : Rel K G0 [] ((.ref D, .own acc) :: (T ++ (S ++ F))) σ H2 Γ2 := ⟨f1, fun _ _ m => by simp at m, by
      show R K G0 H2 (ents σ Γ2 ++ _)
      rw [f2]
      exact R3.r⟩
    have R5 : Rel K G0 T (S ++ ((.ref D, .own acc) :: F)) σ H2 Γ2 := Rel.unallF R2.al ⟨R4.fit, R4.al, R4.r.perm (by
      show (ents σ Γ2 ++ ((V.ref D, O.own acc) :: (T ++ (S ++ F)))).Perm (ents σ Γ2 ++ (T ++ (S ++ ((V.ref D, O.own acc) :: F))))
      refine List.Perm.append_left _ ?_
      refine List.Perm.trans ?_ (List.Perm.append_left T List.perm_middle.symm)
      exact List.perm_middle.symm)⟩
    exact q _ Γ2 _ H2 (ie acc Γ2 iv) (Rel.ofF' (by intro _ z; cases z) R5.dropF)
where
  wipe_wipe (σ : Sl) (vs : List Nat) : wipe (wipe σ vs) vs = wipe σ vs := by
    apply List.ext_getElem?
    intro i
    by_cases hi : i ∈ vs
    · rw [wipe_in hi, wipe_in hi, wipe_length]
    · rw [wipe_out hi]
theorem de_lc (hN : X.N.Nodup) (hi : DI X tg iter τi) (ok : BlkOk X.N X.env.scope scope own)
    (hg : ∀ (s : Shared) (H : Hp) (C : Addr) (cl : List (Str × Addr)) (fp : List Addr), DG (X.blk s H scope (compEnvC scope cl C X.env) fp) tg ws γ) (ht : ∀ (s : Shared) (H : Hp) (C : Addr) (cl : List (Str × Addr)) (fp : List Addr), DTs (X.blk s H scope (compEnvC scope cl C X.env) fp) ifs tt)
    (he : ∀ (s : Shared) (H : Hp) (C : Addr) (cl : List (Str × Addr)) (fp : List Addr), DE (X.blk s H scope (compEnvC scope cl C X.env) fp) elt te) (hw : ∀ i ∈ ws, i ∈ own.map (·.2) := by decide) (hc : X.calm = true := by rfl) (hs : ∀ x, foldedSetIterable iter X.env x = pure x := by intro _; rfl) :
    DE X (.ListComp elt [⟨tg, iter, ifs, 0⟩] scope pos) (dLc τi γ tt te (own.map (·.2))) := peI (pe_lc hc hN hi ok hg ht he hs) fun σ H Q h => lc_read hw h
def tyName : PyData → String
  | .none => "NoneType"
  | .bool _ => "bool"
  | .int _ => "int"
  | .str _ => "str"
  | .list _ => "list"
  | .tuple _ => "tuple"
  | .dict _ => "dict"
def isT (d : PyData) (T : String) : Bool := match d, T with
  | .bool _, "bool" => true
  | .bool _, "int" => true
  | .int _, "int" => true
  | .str _, "str" => true
  | .list _, "list" => true
  | .tuple _, "tuple" => true
  | _, _ => false
end
end Dl
end
section
namespace Dl
open PySem PySem.Spec PyProof.Rows L2
section
variable {K : PySem.W.Frag} {H : Hp} {v : V} {d : PyData}
theorem dq_ty (h : Dq K H v d) : TyX K H v (.type (tyName d)) := by
  cases h with
  | non => exact .base .non
  | bl b => exact .base (.bl b)
  | int i => exact .base (.int i)
  | str x => exact .base (.str x)
  | lst e _ => exact .base (.lst e)
  | tup e _ =>
    rcases e with (e | ⟨o, e⟩) | ⟨o, its, n, e, c, _⟩
    · exact .base (.tup e)
    · exact .fTuple e
    · exact .kTuple e c
  | dct e _ => exact .base (.dK e)
def noDict : PyData → Prop
  | .dict _ => False
  | _ => True
theorem isi_list : ∀ d : PyData, noDict d → kitB (tyName d) "list" = some (isT d "list")
  | .none, _ => (by decide +kernel : kitB "NoneType" "list" = some false)
  | .bool _, _ => (by decide +kernel : kitB "bool" "list" = some false)
  | .int _, _ => (by decide +kernel : kitB "int" "list" = some false)
  | .str _, _ => (by decide +kernel : kitB "str" "list" = some false)
  | .list _, _ => (by decide +kernel : kitB "list" "list" = some true)
  | .tuple _, _ => (by decide +kernel : kitB "tuple" "list" = some false)
  | .dict _, h => h.elim
theorem isi_tuple : ∀ d : PyData, noDict d → kitB (tyName d) "tuple" = some (isT d "tuple")
  | .none, _ => (by decide +kernel : kitB "NoneType" "tuple" = some false)
  | .bool _, _ => (by decide +kernel : kitB "bool" "tuple" = some false)
  | .int _, _ => (by decide +kernel : kitB "int" "tuple" = some false)
  | .str _, _ => (by decide +kernel : kitB "str" "tuple" = some false)
  | .list _, _ => (by decide +kernel : kitB "list" "tuple" = some false)
  | .tuple _, _ => (by decide +kernel : kitB "tuple" "tuple" = some true)
  | .dict _, h => h.elim
theorem isi_bool : ∀ d : PyData, noDict d → kitB (tyName d) "bool" = some (isT d "bool")
  | .none, _ => (by decide +kernel : kitB "NoneType" "bool" = some false)
  | .bool _, _ => (by decide +kernel : kitB "bool" "bool" = some true)
  | .int _, _ => (by decide +kernel : kitB "int" "bool" = some false)
  | .str _, _ => (by decide +kernel : kitB "str" "bool" = some false)
  | .list _, _ => (by decide +kernel : kitB "list" "bool" = some false)
  | .tuple _, _ => (by decide +kernel : kitB "tuple" "bool" = some false)
  | .dict _, h => h.elim
theorem isi_int : ∀ d : PyData, noDict d → kitB (tyName d) "int" = some (isT d "int")
  | .none, _ => (by decide +kernel : kitB "NoneType" "int" = some false)
  | .bool _, _ => (by decide +kernel : kitB "bool" "int" = some true)
  | .int _, _ => (by decide +kernel : kitB "int" "int" = some true)
  | .str _, _ => (by decide +kernel : kitB "str" "int" = some false)
  | .list _, _ => (by decide +kernel : kitB "list" "int" = some false)
  | .tuple _, _ => (by decide +kernel : kitB "tuple" "int" = some false)
  | .dict _, h => h.elim
theorem isi_str : ∀ d : PyData, noDict d → kitB (tyName d) "str" = some (isT d "str")
  | .none, _ => (by decide +kernel : kitB "NoneType" "str" = some false)
  | .bool _, _ => (by decide +kernel : kitB "bool" "str" = some false)
  | .int _, _ => (by decide +kernel : kitB "int" "str" = some false)
  | .str _, _ => (by decide +kernel : kitB "str" "str" = some true)
  | .list _, _ => (by decide +kernel : kitB "list" "str" = some false)
  | .tuple _, _ => (by decide +kernel : kitB "tuple" "str" = some false)
  | .dict _, h => h.elim
def IsiOk (T : String) : Prop := ∀ d : PyData, noDict d → kitB (tyName d) T = some (isT d T)
end
section
variable {X : Cx} {pos : Pos} {e : Expr} {es : List Expr} {τ τa τb τc : TEd} {τs : TAd} {a b c : Expr} {k : Nat} {T T1 T2 : String} {p p1 p2 p3 : Pos} {x1 x2 : Str}
def dIsi (τ : TEd) (f : PyData → Bool) : TEd := fun Γ Kt => τ Γ fun o Γ1 => match vw Γ1 o with
  | some d => noDict d ∧ Kt (.fz (.bool (f d))) Γ1
  | none => False
theorem dIsi_use {K : PySem.W.Frag} {G0 H : Hp} {T F : Ent} {σ : Sl} {Γ : Gm} {v : V} {o : O} {f : PyData → Bool} {Kt : O → Gm → Prop} (R1 : Rel K G0 ((v, o) :: T) F σ H Γ) (h : match vw Γ o with | some d => noDict d ∧ Kt (.fz (.bool (f d))) Γ | none => False) :
    ∃ d, Dq K H v d ∧ noDict d ∧ Kt (.fz (.bool (f d))) Γ := by
  cases q : vw Γ o with
  | none => simp only [q] at h
  | some d =>
    simp only [q] at h
    exact ⟨d, R1.view q, h.1, h.2⟩
theorem de_isi (T : String) (hT : IsiOk T) (he : DE X e τ) (hg : Gl X "isinstance") (hm : X.mg "isinstance" = none) (hg1 : Gl X x1) (hm1 : X.mg x1 = none) (hv1 : bootBuiltins x1 = some (.type T)) (hn1 : x1 ≠ "__name__" := by decide) (hd1 : (x1 == ("__debug__" : Str)) = false := by decide)
    (hs : starEach (e :: [.Name x1 p1]) X.env = (false, eval e X.env) :: starEach [.Name x1 p1] X.env := by rfl) (hs1 : starEach (.Name x1 p1 :: []) X.env = (false, eval (.Name x1 p1) X.env) :: starEach [] X.env := by rfl) (hpl : (backTo pos (starEach [.Name x1 p1] X.env)).any (·.1) = false := by rfl) :
    DE X (.Call (.Name "isinstance" p) [e, .Name x1 p1] [] pos) (dIsi τ fun d => isT d T) :=
  peI (pe_callB call_isi hg hm (by decide +kernel) (pa_cons he (pa_cons (pe_bltn (v := .ty T) hg1 hm1 hv1 rfl hn1 hd1) pa_nil hs1) hs) (by decide) (by decide) hs hpl) fun σ H Q ⟨G0, Γ, Tm, F, Kt, R1, k, q⟩ => ⟨G0, Γ, Tm, F, _, R1, k, fun o Γ1 v H1 k1 R2 => by
    obtain ⟨d, h1, h2, h3⟩ := dIsi_use (f := fun d => isT d T) R2 k1
    exact ⟨v, .ty T, _, _, _, rfl, .ty T, dq_ty h1, kit_ty (hT d h2), q _ Γ1 _ H1 h3 (R2.drop.push fun _ => .bl _)⟩⟩
theorem de_isi2 (T1 T2 : String) (hT1 : IsiOk T1) (hT2 : IsiOk T2) (he : DE X e τ) (hg : Gl X "isinstance") (hm : X.mg "isinstance" = none) (hg1 : Gl X x1) (hm1 : X.mg x1 = none) (hv1 : bootBuiltins x1 = some (.type T1)) (hg2 : Gl X x2) (hm2 : X.mg x2 = none) (hv2 : bootBuiltins x2 = some (.type T2)) {kk : Nat}
    (hn1 : x1 ≠ "__name__" := by decide) (hd1 : (x1 == ("__debug__" : Str)) = false := by decide) (hn2 : x2 ≠ "__name__" := by decide) (hd2 : (x2 == ("__debug__" : Str)) = false := by decide)
    (hs : starEach (e :: [.Tuple [.Name x1 p1, .Name x2 p2] kk p3]) X.env = (false, eval e X.env) :: starEach [.Tuple [.Name x1 p1, .Name x2 p2] kk p3] X.env := by rfl) (hs1 : starEach (.Tuple [.Name x1 p1, .Name x2 p2] kk p3 :: []) X.env = (false, eval (.Tuple [.Name x1 p1, .Name x2 p2] kk p3) X.env) :: starEach [] X.env := by rfl)
    (hs2 : starEach (.Name x1 p1 :: [.Name x2 p2]) X.env = (false, eval (.Name x1 p1) X.env) :: starEach [.Name x2 p2] X.env := by rfl) (hs3 : starEach (.Name x2 p2 :: []) X.env = (false, eval (.Name x2 p2) X.env) :: starEach [] X.env := by rfl)
    (hpl : (backTo pos (starEach [.Tuple [.Name x1 p1, .Name x2 p2] kk p3] X.env)).any (·.1) = false := by rfl) :
    DE X (.Call (.Name "isinstance" p) [e, .Tuple [.Name x1 p1, .Name x2 p2] kk p3] [] pos) (dIsi τ fun d => isT d T1 || isT d T2) :=
  peI (pe_callB call_isiT hg hm (by decide +kernel) (pa_cons he (pa_cons (pe_tup (pa_cons (pe_bltn (v := .ty T1) hg1 hm1 hv1 rfl hn1 hd1) (pa_cons (pe_bltn (v := .ty T2) hg2 hm2 hv2 rfl hn2 hd2) pa_nil hs3) hs2)) pa_nil hs1) hs) (by decide) (by decide) hs hpl) fun σ H Q ⟨G0, Γ, Tm, F, Kt, R1, k, q⟩ => ⟨G0, Γ, Tm, F, _, R1, k, fun o Γ1 v H1 k1 R2 => by
    obtain ⟨d, h1, h2, h3⟩ := dIsi_use (f := fun d => isT d T1 || isT d T2) R2 k1
    refine ⟨by show 2 ≤ sizeLine; decide, fun n hn => ?_⟩
    have sm : Same H1 (upd H1 n (.tup [.ty T1, .ty T2])) := same_upd hn
    have e1 : PySem.W.kitOne X.K (.type (tyName d)) (.type T1) = some (isT d T1) := kit_ty (hT1 d h2)
    have e2 : PySem.W.kitOne X.K (.type (tyName d)) (.type T2) = some (isT d T2) := kit_ty (hT2 d h2)
    refine ⟨v, n, _, _, [.type T1, .type T2], isT d T1 || isT d T2, rfl, upd_same, .cons (.ty T1) (.cons (.ty T2) .nil), dq_ty (dp_mono sm d v h1), kitAny_cons e1 (fun z => kitAny_cons e2 (fun z2 => ?_) (fun z2 => ?_)) (fun z => ?_), q _ Γ1 _ _ h3 ((R2.drop.grow sm).push fun _ => .bl _)⟩
    · rw [z, z2]; exact kitAny_nil
    · rw [z2, Bool.or_true]
    · rw [z]; rfl⟩
def Can (P : Program) (w : World) (K : PySem.W.Frag) (mg : Str → Option Value) (base : Heap) (k : Nat) (x : Str) (ps : List Str) (sp : Sp) : Prop :=
  ∃ f fd, mg x = some (.ref f) ∧ PySem.W.keepIn K (.ref f) = true ∧ Binds K fd ps [] ∧ FnOk P w K mg base CX0 k f fd ps sp
def At (K : PySem.W.Frag) (mg : Str → Option Value) (x : Str) (st : Stmt) (ps : List Str) : Prop :=
  ∃ f fd, Fun K x x st f fd ∧ mg x = some (.ref f) ∧ Binds K fd ps []
variable {P : Program} {w : World} {K : PySem.W.Frag} {mg : Str → Option Value} {base : Heap} {x : Str} {ps : List Str} {n j : Nat} {φ : List PyData → (O → Prop) → Prop} {φb : Nat → List PyData → (O → Nat → Prop) → Prop}
theorem Can.mono {sp : Sp} {k j : Nat} (c : Can P w K mg base k x ps sp) (h : k ≤ j) : Can P w K mg base j x ps sp := by
  obtain ⟨f, fd, h1, h2, h3, h4⟩ := c
  exact ⟨f, fd, h1, h2, h3, h4.mono h⟩
theorem At.canP {st : Stmt} {N : List Str} {k : Nat} (A : At K mg x st ps) (S : FnScope N ps (defScope st)) (hn : ps.length = n)
    (hbody : ∀ (f : Addr) (cdv : Value) (A : Around) (outer : List Env) (s : Shared) (H : Hp) (E : XK), Room k (A.deeper (envOfC x (defScope st) s.heap.objs.size f cdv)) →
      ∃ τ, DSs (cxOf CX0 P w K mg base N x (defScope st) f cdv A outer s H E).nox (defBody st) τ ∧ ∀ ds Kt, ds.length = n → φ ds Kt → τ { nx := fun _ => Kt (.fz .none), rt := fun o _ => Kt o } (startG N (ds.map .fz))) : Can P w K mg base (k + 1) x ps (spP K n φ) := by
  obtain ⟨f, fd, h1, h2, h3⟩ := A
  exact ⟨f, fd, h2, h1.kp, h3, fnP h1 S hn fun cdv A outer s H E hr => hbody f cdv A outer s H E hr⟩
theorem At.canB {st : Stmt} {N : List Str} {k : Nat} (A : At K mg x st ps) (S : FnScope N ps (defScope st)) (hn : ps.length = n + 1)
    (hbody : ∀ (f : Addr) (cdv : Value) (A : Around) (outer : List Env) (s : Shared) (H : Hp) (E : XK), Room k (A.deeper (envOfC x (defScope st) s.heap.objs.size f cdv)) →
      ∃ τ, DSs (cxOf CX0 P w K mg base N x (defScope st) f cdv A outer s H E).nox (defBody st) τ ∧ ∀ p m ds Kt, ds.length = n → φb m ds Kt →
        τ { nx := fun Γ => ∃ m', get Γ 0 = some (.box p m') ∧ Kt (.fz .none) m', rt := fun o Γ => ∃ m', get Γ 0 = some (.box p m') ∧ Kt o m' } (startG N (.box p m :: ds.map .fz))) : Can P w K mg base (k + 1) x ps (spB K n φb) := by
  obtain ⟨f, fd, h1, h2, h3⟩ := A
  exact ⟨f, fd, h2, h1.kp, h3, fnB h1 S hn fun cdv A outer s H E hr => hbody f cdv A outer s H E hr⟩
theorem de_canP {j k : Nat} (C : Can X.prog X.w X.K X.mg X.base j x ps (spP X.K n φ)) (hr : Room k X.A) (ha : DA X (e :: es) τs) (hj : j ≤ k := by decide) (hg : Gl X x := by rfl)
    (hdb : (x == ("__debug__" : Str)) = false := by decide) (he : starEach (e :: es) X.env = (false, eval e X.env) :: starEach es X.env := by rfl) (hpl : (backTo pos (starEach es X.env)).any (·.1) = false := by rfl) :
    DE X (.Call (.Name x p) (e :: es) [] pos) (dCallP n φ τs) := by
  obtain ⟨f, fd, h1, h2, h3, h4⟩ := C
  exact de_callP h4 (hr.mono hj) hg h1 h2 h3 ha hdb he hpl
theorem de_canV {j k : Nat} (C : Can X.prog X.w X.K X.mg X.base j x ps (spP X.K n φ)) (hr : Room k X.A) (ha : DA X (e :: es) τs) (hj : j ≤ k := by decide) (hg : Gl X x := by rfl)
    (hdb : (x == ("__debug__" : Str)) = false := by decide) (he : starEach (e :: es) X.env = (false, eval e X.env) :: starEach es X.env := by rfl) (hpl : (backTo pos (starEach es X.env)).any (·.1) = false := by rfl) :
    DE X (.Call (.Name x p) (e :: es) [] pos) (dCallV n φ τs) := by
  obtain ⟨f, fd, h1, h2, h3, h4⟩ := C
  exact de_callV h4 (hr.mono hj) hg h1 h2 h3 ha hdb he hpl
theorem de_canB {j k : Nat} (C : Can X.prog X.w X.K X.mg X.base j x ps (spB X.K n φb)) (hr : Room k X.A) (ha : DA X (e :: es) τs) (hj : j ≤ k := by decide) (hg : Gl X x := by rfl)
    (hdb : (x == ("__debug__" : Str)) = false := by decide) (he : starEach (e :: es) X.env = (false, eval e X.env) :: starEach es X.env := by rfl) (hpl : (backTo pos (starEach es X.env)).any (·.1) = false := by rfl) :
    DE X (.Call (.Name x p) (e :: es) [] pos) (dCallB n φb τs) := by
  obtain ⟨f, fd, h1, h2, h3, h4⟩ := C
  exact de_callB h4 (hr.mono hj) hg h1 h2 h3 ha hdb he hpl
end
end Dl
end
section
namespace Dl
open PySem PySem.Spec PyProof.Rows L2
theorem itemsOf_list (ds : List PyData) : itemsOf (.list ds) = some (true, ds) := rfl
theorem itemsOf_tuple (ds : List PyData) : itemsOf (.tuple ds) = some (false, ds) := rfl
theorem ixN_ok {n : Nat} {r : Int} (h0 : 0 ≤ r) (h1 : r < n) : ixN n r = some r.toNat := by
  unfold ixN
  rw [if_pos h0, if_pos h1]
theorem atI_ok {α : Type} {ds : List α} {e : α} {r : Int} (h0 : 0 ≤ r) (h1 : r < ds.length) : atI ds r = some (ds.getD r.toNat e) := by
  have hl : r.toNat < ds.length := by omega
  have h2 : ds[r.toNat]? = some (ds.getD r.toNat e) := by
    rw [List.getD_eq_getElem?_getD, List.getElem?_eq_getElem hl]
    rfl
  unfold atI
  rw [ixN_ok h0 h1]
  exact h2
section
variable {X : Cx} {pos : Pos} {e : Expr} {es : List Expr} {τ τa τb τc : TEd} {τs : TAd} {a b c : Expr} {k : Nat}
def nonOf : O → Option Bool
  | .fz .none => some true
  | .fz (.int _) => some false
  | .fz (.bool _) => some false
  | .fz (.str _) => some false
  | .fz (.list _) => some false
  | .fz (.tuple _) => some false
  | .fz (.dict _) => some false
  | .own _ => some false
  | _ => none
def dIsN (g : Bool → Bool) (τ : TEd) : TEd := fun Γ Kt => τ Γ fun o Γ1 => match nonOf o with
  | some b => Kt (.fz (.bool (g b))) Γ1
  | none => False
theorem nonOf_use {K : PySem.W.Frag} {G0 H : Hp} {T F : Ent} {σ : Sl} {Γ : Gm} {v : V} {o : O} {A : Bool → Prop} (R1 : Rel K G0 ((v, o) :: T) F σ H Γ) (h : match nonOf o with | some b => A b | none => False) : A (decide (v = .non)) := by
  cases o with
  | fz d =>
    have hd := R1.r.seen (o := .fz d) rfl
    cases hd <;> exact h
  | own ds =>
    obtain ⟨a, vs, rfl, _⟩ := R1.r.itemsO
    exact h
  | ol _ => exact h.elim
  | box _ _ => exact h.elim
  | al _ => exact h.elim
  | any => exact h.elim
  | dct _ => exact h.elim
  | ob _ => exact h.elim
theorem de_isN {j p'} (ha : DE X a τa) : DE X (.Compare a [.Is] [.Constant .none j p'] pos) (dIsN id τa) := peI (pe_cmp (pc_isN ha)) fun σ H Q ⟨G0, Γ, T, F, Kt, R1, k, q⟩ => ⟨G0, Γ, T, F, _, R1, k, fun o Γ1 v H1 k1 R2 =>
  q _ Γ1 _ H1 (nonOf_use (A := fun b => Kt (.fz (.bool (id b))) Γ1) R2 k1) (R2.drop.push fun _ => .bl _)⟩
def dIsNT (g : Bool → Bool) (τ : TEd) : TTd := fun Γ Kt => τ Γ fun o Γ1 => match nonOf o with
  | some b => Kt (g b) Γ1
  | none => False
theorem dt_isN {j p'} (ha : DE X a τa) : DT X (.Compare a [.Is] [.Constant .none j p'] pos) (dIsNT id τa) := ptI (pt_cmp (pc_isN ha)) fun σ H Q ⟨G0, Γ, T, F, Kt, R1, k, q⟩ => ⟨G0, Γ, T, F, _, R1, k, fun o Γ1 v H1 k1 R2 =>
  ⟨_, rfl, q _ Γ1 H1 (nonOf_use (A := fun b => Kt (id b) Γ1) R2 k1) R2.drop⟩⟩
def dAug (i : Nat) (f : Int → Int → Int) (τ : TEd) : TSd := fun E Γ => match get Γ i with
  | some (.fz (.int x)) => τ Γ fun o Γ1 => (match o with
    | .fz (.int y) => E.nx (put Γ1 i (some (.fz (.int (f x y)))))
    | _ => False)
  | _ => False
theorem ds_aug_of {i : Nat} {f : Int → Int → Int} {op : Operator} {x : Str} {pos' : Pos} (ho : PIp X op (ipI f)) (hN : X.N.Nodup) (he : DE X e τ) (hi : X.N[i]? = some x) (hx : Loc X.env.scope x) (hf : X.fn x = true ∨ X.env.scope.names.lookup x = some .local) : DS X (.AugAssign (.Name x pos') op e pos) (dAug i f τ) :=
  psI (ps_aug (i := i) hN hi hx he ho hf) fun D σ H ⟨G0, Γ, F, E, R1, k, q⟩ => by
    unfold dAug at k
    split at k
    · rename_i x g
      obtain ⟨v, h1, h2, _⟩ := R1.out g
      obtain rfl := R.int h2
      refine ⟨_, h1, G0, Γ, [], F, _, R1, k, fun o Γ1 w H1 k1 R2 => ?_⟩
      split at k1
      · obtain rfl := R.int R2.r
        exact ⟨_, _, rfl, rfl, q.nx _ _ H1 k1 (Rel.store (R2.drop.push fun _ => .int _).toF')⟩
      · exact k1.elim
    · exact k.elim
theorem ds_augA (i : Nat) {x : Str} {pos' : Pos} (hN : X.N.Nodup) (he : DE X e τ) (hi : X.N[i]? = some x := by rfl) (hx : Loc X.env.scope x := by first | exact Or.inl rfl | exact Or.inr rfl) (hf : X.fn x = true ∨ X.env.scope.names.lookup x = some .local := by first | exact .inl rfl | exact .inr rfl) : DS X (.AugAssign (.Name x pos') .Add e pos) (dAug i (· + ·) τ) := ds_aug_of ip_add hN he hi hx hf
theorem ds_augS (i : Nat) {x : Str} {pos' : Pos} (hN : X.N.Nodup) (he : DE X e τ) (hi : X.N[i]? = some x := by rfl) (hx : Loc X.env.scope x := by first | exact Or.inl rfl | exact Or.inr rfl) (hf : X.fn x = true ∨ X.env.scope.names.lookup x = some .local := by first | exact .inl rfl | exact .inr rfl) : DS X (.AugAssign (.Name x pos') .Sub e pos) (dAug i (· - ·) τ) := ds_aug_of ip_sub hN he hi hx hf
/-- a, b = e, e no written tuple -/
def dUnp (τ : TEd) (γ : TGd) : TSd := fun E Γ => τ Γ fun o Γ1 => esc Γ1 o fun d Γ2 => γ d Γ2 E.nx
theorem ds_unp {tg : Expr} {ws : List Nat} {γ : TGd} (he : DE X e τ) (hg : DG X tg ws γ) (hs : swapsWithSole [tg] e pos.line X.env = pure false := by rfl) (hw : swappedStores [tg] e X.env = pure none := by rfl) (h1 : (assignEach [tg] X.env).map (·.2) = [assign tg X.env] := by rfl) : DS X (.Assign [tg] e pos) (dUnp τ γ) :=
  psI (ps_asg he hg hs hw h1) fun D σ H ⟨G0, Γ, F, E, R1, k, q⟩ => ⟨G0, Γ, [], F, _, R1, k, fun o Γ1 v H1 k1 R2 => by
    obtain ⟨d, Γ2, k2, R3⟩ := R2.escape k1
    exact ⟨G0, Γ2, F, d, _, R3.toF', k2, fun Γ' σ' H' k3 _ R4 => q.nx Γ' σ' H' k3 R4⟩⟩
end
end Dl
end
section
namespace Dl
open PySem PySem.Spec PyProof.Rows L2
abbrev DK (X : Cx) (kws : List Keyword) (τ : TAd) : Prop := PK X kws (liftA X.K τ)
theorem pkI {X : Cx} {e : List Keyword} {t t' : TA} (h : PK X e t) (f : ∀ σ H Q, t' σ H Q → t σ H Q) : PK X e t' := ⟨fun pos pins s σ H Q I q => h.run pos pins s σ H Q I (f σ H Q q)⟩
/-- how a call by keywords alone binds: ix tells for each parameter which keyword -/
def KwB (K : PySem.W.Frag) (fd : FuncData) (ps ks : List Str) (ix : List Nat) : Prop := ∀ (s : Shared) (ws : List Value), K.In s.heap → ws.length = ks.length → BindsTo s fd ⟨[], ks.zip ws⟩ (ps.zip (ix.map fun i => ws.getD i .none))
def CanW (P : Program) (w : World) (K : PySem.W.Frag) (mg : Str → Option Value) (base : Heap) (k : Nat) (x : Str) (ps ks : List Str) (ix : List Nat) (sp : Sp) : Prop :=
  ∃ f fd, mg x = some (.ref f) ∧ PySem.W.keepIn K (.ref f) = true ∧ Binds K fd ps [] ∧ KwB K fd ps ks ix ∧ FnOk P w K mg base CX0 k f fd ps sp
section
variable {P : Program} {w : World} {K : PySem.W.Frag} {mg : Str → Option Value} {base : Heap} {x : Str} {ps ks : List Str} {n j : Nat} {ix : List Nat} {φ : List PyData → (O → Prop) → Prop} {φb : Nat → List PyData → (O → Nat → Prop) → Prop}
theorem CanW.can {sp : Sp} {k : Nat} (c : CanW P w K mg base k x ps ks ix sp) : Can P w K mg base k x ps sp := by
  obtain ⟨f, fd, h1, h2, h3, _, h4⟩ := c
  exact ⟨f, fd, h1, h2, h3, h4⟩
theorem Fun.kwb {qual : Str} {st : Stmt} {f : Addr} {fd : FuncData} (F : Fun K x qual st f fd)
    (h : ∀ (kV doc pm : Value) (an : Option Addr) (cdv ct : Value) (ws : List Value), ws.length = ks.length → bindArgs (PySem.W.fnOf x qual (defArgs st) (defBody st) (defScope st) .none kV doc pm an cdv ct) ⟨[], ks.zip ws⟩ = pure (ps.zip (ix.map fun i => ws.getD i .none))) : KwB K fd ps ks ix := by
  obtain ⟨oc, od, kV, doc, pm, an, cdv, ct, osl, rfl, lk, hcd⟩ := F.ex
  intro s ws _ hl
  exact BindsTo.of_looks fun M => .of_pure (h kV doc pm an cdv ct ws hl)
end
section
variable {X : Cx} {CX : CXT} {k n : Nat} {f : Addr} {fd : FuncData} {ps ks : List Str} {x : Str} {p pos kpos : Pos} {e : Expr} {es : List Expr} {kws : List Keyword} {nm : Option Str} {τ : TEd} {τs : TAd} {φ : List PyData → (O → Prop) → Prop} {ix : List Nat}
theorem dk_nil : DK X [] dNil := pkI pk_nil fun σ H Q ⟨G0, Γ, T, F, Kt, R1, k, q⟩ => q [] Γ [] H k rfl R1
theorem dk_cons (ha : DE X e τ) (hr : DK X kws τs) : DK X (⟨nm, e, kpos⟩ :: kws) (dCons τ τs) :=
  pkI (pk_cons ha hr) fun σ H Q ⟨G0, Γ, T, F, Kt, R1, k, q⟩ => ⟨G0, Γ, T, F, _, R1, k, fun o Γ1 v H1 k1 R2 => ⟨G0, Γ1, (v, o) :: T, F, _, R2, k1, fun os Γ2 vs H2 k2 hl R3 => q (o :: os) Γ2 (v :: vs) H2 k2 (congrArg (· + 1) hl) ⟨R3.fit, fun u i m => R3.al u i (by
      simp only [List.zip_cons_cons, List.cons_append, List.mem_cons, List.mem_append] at m ⊢
      rcases m with m | m | m <;> simp [m]), R3.r.perm (by
      simp only [List.zip_cons_cons, List.cons_append, List.append_assoc]
      exact List.perm_middle)⟩⟩⟩
def pick (ix : List Nat) (ds : List PyData) : List PyData := ix.map fun i => ds.getD i .none
def dKwP (n m : Nat) (ix : List Nat) (φ : List PyData → (O → Prop) → Prop) (t : TAd) : TEd := fun Γ Kt => t Γ fun os Γ1 => os.length = m ∧ escs Γ1 os fun ds Γ2 => ix.length = n ∧ φ (pick ix ds) fun o => Kt o Γ2
theorem dqAll_at {K : PySem.W.Frag} {G : Hp} {vs : List V} {ds : List PyData} (h : DqAll K G vs ds) (i : Nat) : Dq K G (vs.getD i .non) (ds.getD i .none) := by
  cases q : ds[i]? with
  | none =>
    have q2 : vs[i]? = none := by
      rw [List.getElem?_eq_none_iff] at q ⊢
      rw [dpAll_len h]
      exact q
    rw [List.getD_eq_getElem?_getD, List.getD_eq_getElem?_getD, q, q2]
    exact .non
  | some d =>
    obtain ⟨v, e1, e2⟩ := dpAll_get h q
    rw [List.getD_eq_getElem?_getD, List.getD_eq_getElem?_getD, q, e1]
    exact e2
theorem dqAll_pick {K : PySem.W.Frag} {G : Hp} {vs : List V} {ds : List PyData} (h : DqAll K G vs ds) : ∀ ix : List Nat, DqAll K G (ix.map fun i => vs.getD i .non) (pick ix ds)
  | [] => .nil
  | i :: ix => .cons (dqAll_at h i) (dqAll_pick h ix)
theorem vals_at {vs : List V} {us : List Value} (r : Vals vs us) (i : Nat) : RelV (vs.getD i .non) (us.getD i .none) := by
  induction r generalizing i with
  | nil => exact rfl
  | cons h t ih =>
    cases i with
    | zero => exact h
    | succ i => exact ih i
theorem vals_pick {vs : List V} {us : List Value} (r : Vals vs us) : ∀ ix : List Nat, Vals (ix.map fun i => vs.getD i .non) (ix.map fun i => us.getD i .none)
  | [] => .nil
  | i :: ix => .cons (vals_at r i) (vals_pick r ix)
end
section
variable {X : Cx}
theorem sumT_raw {prog : Program} {w : World} {A : Around} {E : Value → Shared → Prop} {s : Shared} {l : Addr} {its : List Value} {ns : List Int} {Q : Value → Shared → Prop} (hh : A.handled = none) (hl : s.heap.IsTuple l its.toArray) (hi : IntsAre its ns)
    (h : ∀ h' tk t', (∀ b o, s.heap.get? b = some o → h'.get? b = some o) → Q (.int ns.sum t') { s with heap := h', toks := tk }) : wpAny (model prog w) A (call (.builtin "sum") [.ref l]) Q E s := by
  obtain ⟨xs, e⟩ := hi.allInts.items
  have hn : numsOf (intItems xs).toList = ns := by rw [← e]; exact hi.numsOf
  rw [nums_intItems] at hn
  rw [e] at hl
  refine PySem.W.ktm_sumG hh hl fun h' tk t' hk => ?_
  have := h h' tk t' hk
  rw [preSum_eq, List.take_of_length_le (by simp), hn]; exact this
def rSumA (K : PySem.W.Frag) : List V → Hp → VK → Prop := fun vs H Q => ∃ (a : Addr) (ns : List Int), vs = [V.ref a] ∧ (SqL K H a (ns.map V.int) ∨ SqT K H a (ns.map V.int)) ∧ Q (.int ns.sum) H
theorem cr_sumA (hc : X.calm = true) : CallR X (.builtin "sum") (rSumA X.K) := by
  intro pins s σ H vs us Q I r h
  obtain ⟨a, ns, rfl, hs | hs, q⟩ := h
  · exact cr_sum hc pins s σ H _ us Q I r ⟨a, ns, rfl, hs, q⟩
  · obtain ⟨its, rv, hl, _⟩ := I.tuple hs
    rw [Vals.ref1 r]
    exact sumT_raw (I.ok.hd hc) hl rv.ints fun h' tk t' hk => ⟨.int _, H, I.kept hk, ⟨_, rfl⟩, q⟩
/-- the ints of a list or a tuple at hand -/
def onIntsA (Γ : Gm) (os : List O) (k : List Int → Prop) : Prop := match os with
  | [o] => (match vw Γ o with
    | some d => ∃ kd is, itemsOf d = some (kd, is.map PyData.int) ∧ k is
    | none => False)
  | _ => False
theorem onIntsA_use {K : PySem.W.Frag} {G0 H : Hp} {T F : Ent} {σ : Sl} {Γ : Gm} {vs : List V} {os : List O} {k : List Int → Prop} (hl : vs.length = os.length) (R1 : Rel K G0 (vs.zip os ++ T) F σ H Γ) (h : onIntsA Γ os k) :
    ∃ a is, vs = [.ref a] ∧ (SqL K H a (is.map V.int) ∨ SqT K H a (is.map V.int)) ∧ k is ∧ Rel K G0 T F σ H Γ := by
  unfold onIntsA at h
  match os, vs, hl with
  | [o], [v], _ =>
    have R1 : Rel K G0 ((v, o) :: T) F σ H Γ := R1
    simp only at h
    cases h1 : vw Γ o with
    | none => simp only [h1] at h
    | some d =>
      simp only [h1] at h
      obtain ⟨kd, is, hi, h⟩ := h
      have hd := R1.view h1
      cases d with
      | list ds =>
        cases hi
        cases hd with
        | lst e1 e2 =>
          have e3 := dpAll_ints_inv e2
          subst e3
          exact ⟨_, is, rfl, .inl (SqL.of e1), h, R1.drop⟩
      | tuple ds =>
        cases hi
        cases hd with
        | tup e1 e2 =>
          have e3 := dpAll_ints_inv e2
          subst e3
          exact ⟨_, is, rfl, .inr e1, h, R1.drop⟩
      | _ => cases hi
  | [], _, _ => exact h.elim
  | _ :: _ :: _, _, _ => exact h.elim
theorem fit_sumA : FitC X.K (rSumA X.K) (fun Γ os Kt => onIntsA Γ os fun is => Kt (.fz (.int is.sum)) Γ) := fun G0 Γ T F σ H vs os Kt Q hl R1 h q => by
  obtain ⟨a, is, rfl, hs, h, R2⟩ := onIntsA_use hl R1 h
  exact ⟨a, is, rfl, hs, q _ Γ _ H h (R2.push fun _ => .int _)⟩
end
end Dl
end
section
namespace Dl
open PySem PySem.Spec PyProof.Rows L2
def phD (ks : List Int) : Hp → Hp → V → List Addr → Prop := fun _ H v fp => ∃ p kvs, v = .ref p ∧ fp = [p] ∧ H p = some (.dK kvs) ∧ kvs.map (·.1) = ks.map Sum.inl
theorem stab_D (ks : List Int) : Stab (phD ks) := ⟨fun ⟨p, kvs, h1, h2, h3, h4⟩ _ k => ⟨p, kvs, h1, h2, (k p (by rw [h2]; simp)).trans h3, h4⟩, fun ⟨p, kvs, h1, h2, h3, h4⟩ a ha => by
  rw [h2] at ha
  simp at ha
  subst ha
  exact ⟨_, h3⟩⟩
abbrev dctO (ks : List Int) : O := .ob (phD ks)
def addKs (ks ns : List Int) : List Int := ns.foldl (fun ks n => if n ∈ ks then ks else ks ++ [n]) ks
section
variable {K : PySem.W.Frag} {G0 G H H' : Hp} {L L' : Ent} {v : V} {o : O} {d : PyData} {ks ns : List Int}
theorem R.dct (r : R K G0 H ((v, dctO ks) :: L)) : ∃ p kvs, v = .ref p ∧ H p = some (.dK kvs) ∧ kvs.map (·.1) = ks.map Sum.inl ∧
    ∀ (kvs' : List (Key × V)) (ks' : List Int), kvs'.map (·.1) = ks'.map Sum.inl → R K G0 (upd H p (.dK kvs')) ((v, dctO ks') :: L) := by
  obtain ⟨G, f, g, s0, s1, h1, h2, nd, hn⟩ := R.cons_iff.mp r
  unfold dn at h1
  obtain ⟨⟨p, kvs, rfl, rfl, e1, e2⟩, _⟩ := h1
  refine ⟨p, kvs, rfl, e1, e2, fun kvs' ks' k => ?_⟩
  refine R.put s0 s1 h2 nd hn ?_
  unfold dn
  exact ⟨⟨p, kvs', rfl, rfl, upd_same, k⟩, stab_D ks'⟩
end
section
variable {X : Cx} {pos : Pos} {e : Expr} {es : List Expr} {τ : TEd} {τs : TAd}
def dNewD : TEd := fun Γ Kt => Kt (dctO []) Γ
def onPairs (Γ : Gm) (os : List O) (k : List Int → Prop) : Prop := match os with
  | [o] => (match vw Γ o with
    | some (.list ds) => ∃ kds : List (Int × PyData), ds = kds.map (fun x => .tuple [.int x.1, x.2]) ∧ k (kds.map (·.1))
    | _ => False)
  | _ => False
def dUpd (i : Nat) (t : TAd) : TEd := fun Γ Kt => (∃ ks, get Γ i = some (dctO ks)) ∧ t Γ fun os Γ1 => ∃ ks, get Γ1 i = some (dctO ks) ∧ onPairs Γ1 os fun ns => ks.length + ns.length ≤ sizeLine ∧ Kt (.fz .none) (put Γ1 i (some (dctO (addKs ks ns))))
/-- sorted(d) -/
def dSortD (Γ : Gm) (os : List O) (Kt : O → Gm → Prop) : Prop := ∃ i ks, os = [.al i] ∧ get Γ i = some (dctO ks) ∧ ks.length < 64 ∧ ∀ ys : List Int, ys.Perm ks → ys.Pairwise (· ≤ ·) → Kt (.own (ys.map .int)) Γ
end
end Dl
end
section
namespace Dl
open PySem PySem.Spec PyProof.Rows L2
section
variable {K : PySem.W.Frag} {G0 G H H' : Hp} {L : Ent} {v : V} {o : O} {z : Str}
theorem dnAll_at : ∀ {os : List O} {vs : List V} {fp : List Addr} {k : Nat} {o : O}, dnAll K G H os vs fp → fp.Nodup → os[k]? = some o →
    ∃ v f, vs[k]? = some v ∧ dn K G H o v f ∧ (∀ a ∈ f, a ∈ fp) ∧ ∀ H' o', dn K G H' o' v f → (∀ a ∈ fp, a ∉ f → H' a = H a) → dnAll K G H' (os.set k o') vs fp
  | [], _, _, _, _, _, _, e => by simp at e
  | o :: os, vs, fp, 0, o2, h, nd, e => by
    cases (Option.some.inj e)
    unfold dnAll at h
    obtain ⟨v, vr, f, g, rfl, rfl, h1, h2⟩ := h
    refine ⟨v, f, rfl, h1, fun a ha => List.mem_append_left _ ha, fun H' o' k1 k2 => ?_⟩
    show dnAll K G H' (o' :: os) (v :: vr) (f ++ g)
    unfold dnAll
    refine ⟨v, vr, f, g, rfl, rfl, k1, dnAll_keep (Same.refl G) _ _ g h2 fun a ha => k2 a (List.mem_append_right _ ha) fun z => ?_⟩
    exact (List.nodup_append.mp nd).2.2 a z a ha rfl
  | o :: os, vs, fp, k + 1, o2, h, nd, e => by
    unfold dnAll at h
    obtain ⟨v, vr, f, g, rfl, rfl, h1, h2⟩ := h
    have nd2 := List.nodup_append.mp nd
    obtain ⟨u, f2, e1, e2, e3, e4⟩ := dnAll_at (k := k) h2 nd2.2.1 (by simpa using e)
    refine ⟨u, f2, by simpa using e1, e2, fun a ha => List.mem_append_right _ (e3 a ha), fun H' o' k1 k2 => ?_⟩
    show dnAll K G H' (o :: os.set k o') (v :: vr) (f ++ g)
    unfold dnAll
    refine ⟨v, vr, f, g, rfl, rfl, dn_keep (Same.refl G) o v f h1 fun a ha => k2 a (List.mem_append_left _ ha) fun z => ?_, e4 H' o' k1 fun a ha hn => k2 a (List.mem_append_right _ ha) hn⟩
    exact nd2.2.2 a ha a (e3 a z) rfl
theorem R.olAt {os : List O} {k : Nat} {ds : List PyData} (r : R K G0 H ((v, .ol os) :: L)) (e : os[k]? = some (.own ds)) : ∃ p vs q ws, v = .ref p ∧ H p = some (.lst vs) ∧ vs[k]? = some (.ref q) ∧ H q = some (.lst ws) ∧ ws.length = ds.length ∧
    R K G0 (upd H q (.lst (ws ++ [.str z]))) ((v, .ol (os.set k (.own (ds ++ [.str z])))) :: L) := by
  obtain ⟨G, f, g, s0, s1, h1, h2, nd, hn⟩ := R.cons_iff.mp r
  unfold dn at h1
  obtain ⟨p, vs, fq, rfl, rfl, h3, h4⟩ := h1
  obtain ⟨nf, ng, dj⟩ := List.nodup_append.mp nd
  have nf2 := List.nodup_cons.mp nf
  obtain ⟨u, f2, e1, e2, e3, e4⟩ := dnAll_at h4 nf2.2 e
  unfold dn at e2
  obtain ⟨q, ws, rfl, rfl, e5, e6⟩ := e2
  have hq : q ∈ fq := e3 q (by simp)
  have gq : G q = none := hn q (by simp [hq])
  have hqp : p ≠ q := fun z => nf2.1 (z ▸ hq)
  refine ⟨p, vs, q, ws, rfl, h3, e1, e5, dpAll_len e6, R.cons_iff.mpr ⟨G, p :: fq, g, s0, fun b x k => ?_, ?_, dnAll_keep (Same.refl G) _ _ g h2 fun a ha => upd_ne fun z => ?_, nd, hn⟩⟩
  · rw [upd_ne (ne_of_none k gq)]
    exact s1 b x k
  · unfold dn
    refine ⟨p, vs, fq, rfl, rfl, (upd_ne hqp).trans h3, e4 _ _ ?_ fun a ha hna => upd_ne fun z => hna (by rw [z]; simp)⟩
    unfold dn
    exact ⟨q, _, rfl, rfl, upd_same, dpAll_app e6 (.cons (.str z) .nil)⟩
  · exact dj q (by simp [hq]) a ha z.symm
end
section
variable {X : Cx} {pos : Pos} {e : Expr} {es : List Expr} {τ : TEd} {τs : TAd}
def onOlAt (o : Option O) (k : Int) (h : List O → List PyData → Prop) : Prop := match o with
  | some (.ol os) => 0 ≤ k ∧ (match os[k.toNat]? with
    | some (.own ds) => h os ds
    | _ => False)
  | _ => False
theorem onOlAt_use {o : Option O} {k : Int} {h : List O → List PyData → Prop} (q : onOlAt o k h) : ∃ os ds, o = some (.ol os) ∧ 0 ≤ k ∧ os[k.toNat]? = some (.own ds) ∧ h os ds := by
  unfold onOlAt at q
  split at q
  · rename_i os
    obtain ⟨h0, q⟩ := q
    split at q
    · rename_i ds e
      exact ⟨os, ds, rfl, h0, e, q⟩
    · exact q.elim
  · exact q.elim
def dAppT (i : Nat) (k : Int) (z : Str) : TSd := fun E Γ => onOlAt (get Γ i) k fun os ds => ds.length < sizeLine ∧ E.nx (put Γ i (some (.ol (os.set k.toNat (.own (ds ++ [.str z]))))))
/-- x[k].append("..") -/
theorem ds_appAt (i : Nat) {x : Str} {k : Int} {z : Str} {kk kz : Nat} {p0 p1 p2 p3 ap cp sp : Pos} (hv : PE X (.Name x p0) (tVar i)) (h1 : attributeBase (.Subscript (.Name x p0) (.Constant (.int k) kk p1) p2) "append" X.env (eval (.Subscript (.Name x p0) (.Constant (.int k) kk p1) p2) X.env) = eval (.Subscript (.Name x p0) (.Constant (.int k) kk p1) p2) X.env := by rfl) (h3 : (ap.endLine == cp.line) = true := by rfl)
    (h2 : ((backTo cp (starEach [.Constant (.str z) kz p3] X.env)).all (fun z => !z.1) && (backToKw cp (keywordEach [] X.env)).all (fun z => z.1.isSome) && decide (([Expr.Constant (.str z) kz p3].length + ([] : List Keyword).length + if ([] : List Keyword).isEmpty = true then 0 else 1) < 30)) = true := by rfl)
    (h4 : starEach [.Constant (.str z) kz p3] X.env = (false, eval (.Constant (.str z) kz p3) X.env) :: starEach [] X.env := by rfl) :
    DS X (.Expr (.Call (.Attribute (.Subscript (.Name x p0) (.Constant (.int k) kk p1) p2) "append" ap) [.Constant (.str z) kz p3] [] cp) sp) (dAppT i k z) :=
  psI (ps_expr (pe_bm PySem.F.plainAttrs_list PySem.F.slot_list_append PySem.F.type_list_append mt_append (pe_ix ix_list hv pe_int (fun _ _ => rfl)) (pa_cons pe_str pa_nil h4) h1 h2 h3 h4)) fun D σ H ⟨G0, Γ, F, E, R1, kE, q⟩ => by
    obtain ⟨os, ds, g, h0, eo, hl, kE⟩ := onOlAt_use kE
    obtain ⟨v, e1, e2, e3⟩ := R1.out g
    obtain ⟨p, vs, qa, ws, rfl, f1, f2, f3, f4, f5⟩ := e2.olAt (z := z) eo
    refine ⟨_, e1, p, vs, k, .ref qa, rfl, rfl, SqL.of f1, ?_, .inl ⟨rfl, ws, SqL.of f3⟩, qa, ws, .str z, rfl, rfl, f3, by rw [f4]; exact hl, ?_⟩
    · have hk : k.toNat < vs.length := (List.getElem?_eq_some_iff.mp f2).1
      rw [atI_ok (e := .non) h0 (by omega), List.getD_eq_getElem?_getD, f2]
      rfl
    · exact q.nx _ _ _ kE (Rel.back (σ := σ) (v := .ref p) e3 R1.al (get_lt g) e1 f5)
def phS (K : PySem.W.Frag) (ns : List Int) : Hp → Hp → V → List Addr → Prop := fun G _ v fp => ∃ a, v = .ref a ∧ SqL K G a (ns.map V.int) ∧ fp = []
theorem sqL_same {K : PySem.W.Frag} {H H' : Hp} {a : Addr} {xs : List V} (e : Same H H') (h : SqL K H a xs) : SqL K H' a xs := e.seq h
theorem stab_S (K : PySem.W.Frag) (ns : List Int) : Stab (phS K ns) := ⟨fun ⟨a, h1, h2, h3⟩ e _ => ⟨a, h1, sqL_same e h2, h3⟩, fun ⟨a, h1, h2, h3⟩ b hb => by rw [h3] at hb; simp at hb⟩
abbrev scO (K : PySem.W.Frag) (ns : List Int) : O := .ob (phS K ns)
variable {K : PySem.W.Frag} {G0 G H H' : Hp} {L : Ent} {v : V} {o : O} {ns : List Int}
theorem R.scr (r : R K G0 H ((v, scO K ns) :: L)) : ∃ a, v = .ref a ∧ SqL K H a (ns.map V.int) ∧ R K G0 H ((v, scO K ns) :: (v, scO K ns) :: L) := by
  obtain ⟨G, f, g, s0, s1, h1, h2, nd, hn⟩ := R.cons_iff.mp r
  unfold dn at h1
  obtain ⟨⟨a, rfl, e1, rfl⟩, st⟩ := h1
  refine ⟨a, rfl, sqL_same s1 e1, R.cons_iff.mpr ⟨G, [], g, s0, s1, ?_, ?_, nd, hn⟩⟩
  · unfold dn
    exact ⟨⟨a, rfl, e1, rfl⟩, st⟩
  · simp only [tO, tV, List.cons_append, List.map_cons]
    unfold dnAll
    refine ⟨_, _, [], g, rfl, rfl, ?_, h2⟩
    unfold dn
    exact ⟨⟨a, rfl, e1, rfl⟩, st⟩
/-- a def whose first argument is the script -/
def spS (K : PySem.W.Frag) (n : Nat) (φ : List Int → List PyData → (O → Prop) → Prop) : Sp := fun vs H Q _ => ∃ G0 v ns ds vr F Kt, vs = v :: vr ∧ vr.length = ds.length ∧ ds.length = n ∧ R K G0 H ((v, scO K ns) :: (fzs vr ds ++ F)) ∧ φ ns ds Kt ∧
  ∀ o v H', Kt o → (∀ i, o ≠ .al i) → R K G0 H' ((v, o) :: F) → Q v H'
theorem fnS {P : Program} {w : World} {mg : Str → Option Value} {base : Heap} {x qual : Str} {st : Stmt} {f : Addr} {fd : FuncData} {N ps : List Str} {k n : Nat} {φ : List Int → List PyData → (O → Prop) → Prop} (F : Fun K x qual st f fd) (S : FnScope N ps (defScope st)) (hn : ps.length = n + 1)
    (hbody : ∀ (cdv : Value) (A : Around) (outer : List Env) (s : Shared) (H : Hp) (E : XK), Room k (A.deeper (envOfC qual (defScope st) s.heap.objs.size f cdv)) →
      ∃ τ, DSs (cxOf CX0 P w K mg base N qual (defScope st) f cdv A outer s H E).nox (defBody st) τ ∧ ∀ ns ds Kt, ds.length = n → φ ns ds Kt →
        τ { nx := fun _ => Kt (.fz .none), rt := fun o _ => Kt o } (startG N (scO K ns :: ds.map .fz))) :
    FnOk P w K mg base CX0 (k + 1) f fd ps (spS K n φ) := by
  refine F.ok S (fun vs H Q E h => ?_) (fun cdv A outer s H vs Q E hr h => ?_)
  · obtain ⟨G0, p, m, ds, vr, F, Kt, rfl, h1, h2, _⟩ := h
    rw [List.length_cons, h1, h2, hn]
  · obtain ⟨τ, hτ, hq⟩ := hbody cdv A outer s H E hr
    obtain ⟨G0, v, ns, ds, vr, F, Kt, rfl, h1, h2, r, hφ, q⟩ := h
    refine ⟨_, hτ, ?_⟩
    obtain ⟨e1, e2⟩ := ents_start (n := N.length - (vr.length + 1)) (vs := v :: vr) (os := scO K ns :: ds.map .fz) (by rw [List.length_cons, List.length_cons, List.length_map, h1])
    have e3 : startG N (scO K ns :: ds.map .fz) = (scO K ns :: ds.map O.fz).map some ++ List.replicate (N.length - (vr.length + 1)) none := by
      unfold startG
      rw [List.length_cons, List.length_map, h1]
    refine ⟨G0, startG N (scO K ns :: ds.map .fz), F, _, ⟨?_, fun _ _ m => by simp at m, ?_⟩, hq ns ds Kt h2 hφ, ⟨fun Γ σ H' k1 r1 => ?_, fun o Γ v σ H' n1 k1 r1 => ?_, fun _ _ _ z => z.elim, fun _ _ _ z => z.elim⟩⟩
    · rw [e3]
      exact e2
    · rw [e3]
      show R K G0 H (ents ((v :: vr).map some ++ List.replicate (N.length - (vr.length + 1)) none) _ ++ F)
      rw [e1]
      show R K G0 H ((v, scO K ns) :: (vr.zip (ds.map .fz) ++ F))
      rw [← fzs_zip]
      exact r
    · have r2 : R K G0 H' (ents σ Γ ++ F) := r1.r
      exact q (.fz .none) .non H' k1 (fun _ z => nomatch z) (r2.dropL.add fun _ => .non)
    · have r2 : R K G0 H' ((v, o) :: (ents σ Γ ++ F)) := r1.r
      refine q o v H' k1 n1 (R.dropL (M := ents σ Γ) (r2.perm ?_))
      exact List.perm_middle.symm
def onScr (n : Nat) (φ : List Int → List PyData → (O → Prop) → Prop) (K : PySem.W.Frag) (Kt : O → Gm → Prop) (Γ1 : Gm) (os : List O) : Prop := ∃ i os1 ns, os = .al i :: os1 ∧ get Γ1 i = some (scO K ns) ∧ escs Γ1 os1 fun ds Γ2 => ds.length = n ∧ φ ns ds fun o => Kt o Γ2
def dCallS (n : Nat) (φ : List Int → List PyData → (O → Prop) → Prop) (K : PySem.W.Frag) (t : TAd) : TEd := fun Γ Kt => t Γ fun os Γ1 => onScr n φ K Kt Γ1 os
variable {n : Nat} {φ : List Int → List PyData → (O → Prop) → Prop}
theorem useS {Γ : Gm} {T F : Ent} {σ : Sl} {vs : List V} {os : List O} {Kt : O → Gm → Prop} {Q : VK} {E : XK} (hl : vs.length = os.length) (R2 : Rel X.K G0 (vs.zip os ++ T) F σ H Γ) (k1 : onScr n φ X.K Kt Γ os)
    (q : ∀ o Γ' v H', Kt o Γ' → Rel X.K G0 ((v, o) :: T) F σ H' Γ' → Q v H') : spS X.K n φ vs H Q E := by
  obtain ⟨i, os1, ns, rfl, g, k1⟩ := k1
  obtain ⟨v, vr, rfl⟩ : ∃ v r, vs = v :: r := by
    cases vs with
    | nil => cases hl
    | cons v r => exact ⟨v, r, rfl⟩
  have R2 : Rel X.K G0 ((v, .al i) :: (vr.zip os1 ++ T)) F σ H Γ := R2
  have ev : σ[i]? = some (some v) := R2.al v i List.mem_cons_self
  obtain ⟨w', h1, h2, h3⟩ := R2.drop.out g
  rw [h1] at ev
  cases ev
  obtain ⟨a, rfl, _, h4⟩ := h2.scr
  have R3 : Rel X.K G0 (vr.zip os1 ++ T) ((.ref a, scO X.K ns) :: F) σ H Γ := by
    have z := Rel.back (T := (.ref a, scO X.K ns) :: (vr.zip os1 ++ T)) (o := scO X.K ns) h3 (AlOk.cons R2.al.tail (by intro _ z; cases z)) (get_lt g) h1 (h4.perm (.refl _))
    have e : put Γ i (some (scO X.K ns)) = Γ := de_of_var.put_get g
    rw [e] at z
    refine ⟨z.fit, z.al.tail, z.r.perm ?_⟩
    have q : ((vr.zip os1 ++ T) ++ (ents σ Γ ++ (V.ref a, scO X.K ns) :: F)).Perm ((V.ref a, scO X.K ns) :: ((vr.zip os1 ++ T) ++ (ents σ Γ ++ F))) := by
      rw [← List.append_assoc, ← List.append_assoc]
      exact List.perm_middle
    exact q.symm
  obtain ⟨ds, Γ2, ⟨e1, e3⟩, hl2, R4⟩ := Rel.escapes (Nat.succ.inj hl) R3 k1
  refine ⟨G0, .ref a, ns, ds, vr, T ++ (ents σ Γ2 ++ F), _, rfl, hl2, e1, ?_, e3, fun o u H' k2 n1 r => q o _ u H' k2 ⟨R4.fit, AlOk.cons (fun w j mm => R2.al w j (List.mem_cons_of_mem _ (List.mem_append_right _ mm))) n1, r⟩⟩
  refine R4.r.perm ?_
  rw [List.append_assoc]
  have q : (fzs vr ds ++ (T ++ (ents σ Γ2 ++ (V.ref a, scO X.K ns) :: F))).Perm ((V.ref a, scO X.K ns) :: (fzs vr ds ++ (T ++ (ents σ Γ2 ++ F)))) := by
    rw [← List.append_assoc, ← List.append_assoc, ← List.append_assoc, ← List.append_assoc]
    exact List.perm_middle
  exact q
variable {ps : List Str} {x : Str} {p : Pos}
theorem de_canS {j k : Nat} (C : Can X.prog X.w X.K X.mg X.base j x ps (spS X.K n φ)) (hr : Room k X.A) (ha : DA X (e :: es) τs) (hj : j ≤ k := by decide) (hg : Gl X x := by rfl)
    (hdb : (x == ("__debug__" : Str)) = false := by decide) (he : starEach (e :: es) X.env = (false, eval e X.env) :: starEach es X.env := by rfl) (hpl : (backTo pos (starEach es X.env)).any (·.1) = false := by rfl) :
    DE X (.Call (.Name x p) (e :: es) [] pos) (dCallS n φ X.K τs) := by
  obtain ⟨f, fd, h1, h2, h3, h4⟩ := C
  exact peI (pe_call h4 (hr.mono hj) hg h1 h2 h3 .nil pass0 ha hdb he hpl) fun σ H Q ⟨G0, Γ, T, F, Kt, R1, k, q⟩ => ⟨G0, Γ, T, F, _, R1, k, fun os Γ1 vs H1 k1 hl R2 => by
    show spS X.K n φ (vs ++ []) H1 Q E0
    rw [List.append_nil]
    exact useS hl R2 k1 q⟩
theorem At.canS {P : Program} {w : World} {mg : Str → Option Value} {base : Heap} {st : Stmt} {N : List Str} {k : Nat} (A : At K mg x st ps) (S : FnScope N ps (defScope st)) (hn : ps.length = n + 1)
    (hbody : ∀ (f : Addr) (cdv : Value) (A : Around) (outer : List Env) (s : Shared) (H : Hp) (E : XK), Room k (A.deeper (envOfC x (defScope st) s.heap.objs.size f cdv)) →
      ∃ τ, DSs (cxOf CX0 P w K mg base N x (defScope st) f cdv A outer s H E).nox (defBody st) τ ∧ ∀ ns ds Kt, ds.length = n → φ ns ds Kt →
        τ { nx := fun _ => Kt (.fz .none), rt := fun o _ => Kt o } (startG N (scO K ns :: ds.map .fz))) : Can P w K mg base (k + 1) x ps (spS K n φ) := by
  obtain ⟨f, fd, h1, h2, h3⟩ := A
  exact ⟨f, fd, h2, h1.kp, h3, fnS h1 S hn fun cdv A outer s H E hr => hbody f cdv A outer s H E hr⟩
/-- len of the script -/
def dLenS (K : PySem.W.Frag) (Γ : Gm) (os : List O) (Kt : O → Gm → Prop) : Prop := ∃ i ns, os = [.al i] ∧ get Γ i = some (scO K ns) ∧ Kt (.fz (.int ns.length)) Γ
theorem fit_lenS : FitC X.K (fun xs H Q => ∃ p ys, xs = [.ref p] ∧ (SqL X.K H p ys ∨ SqT X.K H p ys) ∧ Q (.int ys.length) H) (dLenS X.K) := fun G0 Γ T F σ H vs os Kt Q hl R1 h q => by
  obtain ⟨i, ns, rfl, g, h⟩ := h
  match vs, hl with
  | [v], _ =>
    have R1 : Rel X.K G0 ((v, .al i) :: T) F σ H Γ := R1
    have ev : σ[i]? = some (some v) := R1.al v i List.mem_cons_self
    obtain ⟨v', f1, f2, f3⟩ := R1.drop.out g
    rw [ev] at f1
    cases f1
    obtain ⟨a, rfl, e1, _⟩ := f2.scr
    refine ⟨a, _, rfl, .inl e1, q _ Γ _ _ ?_ (R1.drop.push fun _ => .int _)⟩
    rw [List.length_map]
    exact h
/-- script[k] -/
def dIxS (i : Nat) (K : PySem.W.Frag) (τ : TEd) : TEd := fun Γ Kt => (∃ ns, get Γ i = some (scO K ns)) ∧ τ Γ fun o Γ1 => ∃ ns k, get Γ1 i = some (scO K ns) ∧ o = .fz (.int k) ∧ 0 ≤ k ∧ k < ns.length ∧ Kt (.fz (.int (ns.getD k.toNat 0))) Γ1
theorem de_ixS (i : Nat) {y : Str} {p0 : Pos} {b : Expr} {τb : TEd} (hv : PE X (.Name y p0) (tVar i)) (hb : DE X b τb) (hs : PlainIx b := by exact fun _ _ => rfl) : DE X (.Subscript (.Name y p0) b pos) (dIxS i X.K τb) :=
  peI (pe_ix ix_list hv hb hs) fun σ H Q ⟨G0, Γ, T, F, Kt, R1, ⟨⟨ns0, g0⟩, k⟩, q⟩ => by
    obtain ⟨v, e1, e2, _⟩ := R1.out g0
    refine ⟨v, e1, G0, Γ, T, F, _, R1, k, fun o Γ1 u H1 ⟨ns, k, g1, eo, h0, h1, h2⟩ R2 => ?_⟩
    subst eo
    obtain rfl := R.int R2.r
    obtain ⟨v', f1, f2, _⟩ := R2.drop.out g1
    rw [e1] at f1
    cases f1
    obtain ⟨a, rfl, f3, _⟩ := f2.scr
    refine ⟨a, _, k, .int (ns.getD k.toNat 0), rfl, rfl, f3, ?_, q _ Γ1 _ H1 h2 (R2.drop.push fun _ => .int _)⟩
    have hl : k.toNat < ns.length := by omega
    rw [atI_ok (e := .non) h0 (by rw [List.length_map]; exact h1), List.getD_eq_getElem?_getD, List.getElem?_map, List.getD_eq_getElem?_getD, List.getElem?_eq_getElem hl]
    rfl
theorem can_void {P : Program} {w : World} {mg : Str → Option Value} {base : Heap} {st : Stmt} (A : At K mg x st ps) : Can P w K mg base 0 x ps (spP K n fun _ _ => False) := by
  obtain ⟨f, fd, h1, h2, h3⟩ := A
  refine ⟨f, fd, h2, h1.kp, h3, ⟨fun vs H Q E h => ?_, fun _ _ _ _ _ _ _ _ _ _ _ _ _ h => ?_⟩⟩
  · obtain ⟨_, _, _, _, _, _, _, z, _⟩ := h
    exact z.elim
  · obtain ⟨_, _, _, _, _, _, _, z, _⟩ := h
    exact z.elim
end
end Dl
end
section
namespace Dl
open PySem PySem.Spec PyProof.Rows L2
section
variable {X : Cx} {pos : Pos}
def lcTurn (γ : TGd) (tt : TTd) (te : TEd) (vs : List Nat) (n : Nat) (it : Nat → PyData) (Jv : Nat → List PyData → Gm → Prop) : Prop := ∀ j acc Γ2, j < n → Jv j acc Γ2 → γ (it j) Γ2 fun Γ3 => tt Γ3 fun b Γ4 => (b = true → te Γ4 fun o Γ5 => esc Γ5 o fun d Γ6 => acc.length < sizeLine ∧ Jv (j + 1) (acc ++ [d]) (wipeG Γ6 vs)) ∧ (b = false → Jv (j + 1) acc (wipeG Γ4 vs))
/-- the loop of the last source -/
theorem lc_in {K : PySem.W.Frag} {G0 : Hp} {S F : Ent} {σ : Sl} {vs ws : List Nat} {n : Nat} {it : Nat → PyData} {J : It} {Nx : Hp → Prop} {γ : TGd} {tt : TTd} {te : TEd} {D : Addr} {Jv : Nat → List PyData → Gm → Prop} {acc0 : List PyData} {Γ0 : Gm} {H : Hp}
    (hw : ∀ i ∈ ws, i ∈ vs) (fd : Feeds K J n it S) (i0 : Jv 0 acc0 Γ0) (is : lcTurn γ tt te vs n it Jv) (r1 : Rel K G0 [] ((.ref D, .own acc0) :: (S ++ F)) (wipe σ vs) H Γ0)
    (ie : ∀ acc Γ H, Jv n acc Γ → Rel K G0 [] ((.ref D, .own acc) :: (S ++ F)) (wipe σ vs) H Γ → Nx H) :
    ∃ W1 : Nat → Nat → Hp → Prop, (∃ m, W1 0 m H) ∧ ∀ j k H, W1 j k H →
      (J.stop j H ∧ Nx H) ∨ (J.go j H ∧ ∃ Nx1 : Hp → Prop, (∀ H', Nx1 H' → ∃ k', k' < k ∧ W1 (j + 1) k' H') ∧ ∀ x H', J.yld j H x H' → (liftG K ws γ) x (wipe σ vs) H' fun σ3 H5 => wipe σ3 vs = wipe σ vs ∧ (liftT K tt) σ3 H5 fun b H6 =>
        if b = true then (liftE K te) σ3 H6 fun y H7 => ∃ acc, H7 D = some (.lst acc) ∧ acc.length < sizeLine ∧ Nx1 (upd H7 D (.lst (acc ++ [y]))) else Nx1 H6) := by
  have pq : ∀ M N L : Ent, (M ++ (N ++ L)).Perm (N ++ (M ++ L)) := fun M N L => by
    rw [← List.append_assoc, ← List.append_assoc]
    exact List.perm_append_comm.append_right L
  have rS : ∀ {M : Ent} {σ H Γ}, Rel K G0 [] (M ++ (S ++ F)) σ H Γ → R K G0 H (S ++ (M ++ (ents σ Γ ++ F))) := fun {M σ H Γ} r => r.r.perm (by
    show (ents σ Γ ++ (M ++ (S ++ F))).Perm (S ++ (M ++ (ents σ Γ ++ F)))
    refine (pq (ents σ Γ) M _).trans ?_
    refine (List.Perm.append_left M (pq (ents σ Γ) S F)).trans ?_
    exact pq M S _)
  refine ⟨fun i m H => m = n - i ∧ i ≤ n ∧ ∃ acc Γ, Jv i acc Γ ∧ Rel K G0 [] ((.ref D, .own acc) :: (S ++ F)) (wipe σ vs) H Γ, ⟨n, rfl, Nat.zero_le _, acc0, _, i0, r1⟩, ?_⟩
  rintro i m H2 ⟨rfl, hle, acc, Γ2, iv, R3⟩
  by_cases hlt : i < n
  · obtain ⟨g1, g2⟩ := fd.step (rS (M := [(.ref D, .own acc)]) R3) hlt
    refine .inr ⟨g1, fun H' => ∃ acc Γ, Jv (i + 1) acc Γ ∧ Rel K G0 [] ((.ref D, .own acc) :: (S ++ F)) (wipe σ vs) H' Γ, fun H' h => ⟨n - (i + 1), by omega, rfl, hlt, h⟩, fun x H' hy => ?_⟩
    have r4 := g2 x H' hy
    have R4 : Rel K G0 [] ((x, .fz (it i)) :: ((.ref D, .own acc) :: (S ++ F))) (wipe σ vs) H' Γ2 := ⟨R3.fit, R3.al, r4.perm (by
      show ((x, O.fz (it i)) :: (S ++ ([(V.ref D, O.own acc)] ++ (ents (wipe σ vs) Γ2 ++ F)))).Perm (ents (wipe σ vs) Γ2 ++ ([(x, O.fz (it i))] ++ ([(V.ref D, O.own acc)] ++ (S ++ F))))
      refine List.Perm.trans ?_ (pq [(x, O.fz (it i))] (ents (wipe σ vs) Γ2) _)
      refine List.Perm.cons _ ?_
      refine (pq S [(V.ref D, O.own acc)] _).trans ?_
      refine List.Perm.trans ?_ (pq [(V.ref D, O.own acc)] (ents (wipe σ vs) Γ2) _)
      refine List.Perm.cons _ ?_
      exact pq S _ F)⟩
    refine ⟨G0, Γ2, (.ref D, .own acc) :: (S ++ F), it i, _, R4, is i acc Γ2 hlt iv, fun Γ3 σ3 H3 k3 ag R5 => ⟨?_, G0, Γ3, [], _, _, R5, k3, fun b Γ4 H4 k4 R6 => ?_⟩⟩
    · rw [agree_wipe ag hw]
      exact lc_read.wipe_wipe σ vs
    · have hw3 : wipe σ3 vs = wipe σ vs := by rw [agree_wipe ag hw]; exact lc_read.wipe_wipe σ vs
      cases b with
      | false =>
        refine iteF ?_
        refine ⟨acc, _, k4.2 rfl, ?_⟩
        rw [← hw3]
        exact Rel.wiped R6 vs
      | true =>
        refine iteT ?_
        refine ⟨G0, Γ4, [], _, _, R6, k4.1 rfl, fun o Γ5 y H5 k5 R7 => ?_⟩
        obtain ⟨d, Γ6, ⟨z1, k6⟩, R8⟩ := R7.escape k5
        have r9 : R K G0 H5 ((.ref D, .own acc) :: (fzs [y] [d] ++ (ents σ3 Γ6 ++ (S ++ F)))) := R8.r.perm (by
          show ((y, O.fz d) :: (ents σ3 Γ6 ++ ((V.ref D, O.own acc) :: (S ++ F)))).Perm ((V.ref D, O.own acc) :: (y, O.fz d) :: (ents σ3 Γ6 ++ (S ++ F)))
          exact (List.Perm.cons _ List.perm_middle).trans (.swap _ _ _))
        obtain ⟨p, us, e0, e1, e2, e3⟩ := r9.write rfl
        cases e0
        refine ⟨us, e1, by rw [e2]; exact z1, acc ++ [d], _, k6, ?_⟩
        have r10 := e3 (us ++ [y]) [] (acc ++ [d]) [] (fun G a b => ⟨dpAll_app a b, .nil⟩) rfl
        have R9 : Rel K G0 [] ((.ref D, .own (acc ++ [d])) :: (S ++ F)) σ3 (upd H5 D (.lst (us ++ [y]))) Γ6 := ⟨R8.fit, fun _ _ m => by simp at m, (R.tail (v := y) (o := .fz d) (L := (.ref D, .own (acc ++ [d])) :: (ents σ3 Γ6 ++ (S ++ F))) (r10.perm (.swap _ _ _))).perm (by
          exact List.perm_middle.symm)⟩
        rw [← hw3]
        exact R9.wiped vs
  · obtain rfl : i = n := by omega
    exact .inl ⟨fd.stop (rS (M := [(.ref D, .own acc)]) R3), ie acc Γ2 H2 iv R3⟩
def dLc2 (τi : TId) (γ : TGd) (tt : TTd) (τi1 : TId) (γ1 : TGd) (tt1 : TTd) (te : TEd) (vs vs1 : List Nat) : TEd := fun Γ Kt => τi Γ fun n it Γ1 => ∃ Iv : Nat → List PyData → Gm → Prop, Iv 0 [] (wipeG Γ1 vs) ∧
  (∀ i acc Γ2, i < n → Iv i acc Γ2 → γ (it i) Γ2 fun Γ3 => tt Γ3 fun b Γ4 => (b = true → τi1 Γ4 fun n1 it1 Γ5 => ∃ Jv : Nat → List PyData → Gm → Prop, Jv 0 acc (wipeG Γ5 vs1) ∧ lcTurn γ1 tt1 te vs1 n1 it1 Jv ∧ ∀ acc' Γ6, Jv n1 acc' Γ6 → Iv (i + 1) acc' (wipeG Γ6 vs)) ∧ (b = false → Iv (i + 1) acc (wipeG Γ4 vs))) ∧
  ∀ acc Γ2, Iv n acc Γ2 → Kt (.own acc) Γ2
variable {tg iter tg1 iter1 : Expr} {elt : Expr} {ifs ifs1 : List Expr} {scope : Scope} {own : List (Str × Nat)} {ws ws1 : List Nat} {τi τi1 : TId} {γ γ1 : TGd} {tt tt1 : TTd} {te : TEd}
theorem lc2_read {K : PySem.W.Frag} {vs vs1 : List Nat} {σ : Sl} {H : Hp} {Q : VK} (hw : ∀ i ∈ ws, i ∈ vs) (hw1 : ∀ i ∈ ws1, i ∈ vs1) (h : liftE K (dLc2 τi γ tt τi1 γ1 tt1 te vs vs1) σ H Q) : tLc2 (liftI K τi) (liftG K ws γ) (liftT K tt) (liftI K τi1) (liftG K ws1 γ1) (liftT K tt1) (liftE K te) vs vs1 σ H Q := by
  obtain ⟨G0, Γ, T, F, Kt, R1, k, q⟩ := h
  refine ⟨G0, Γ, T, F, _, R1, k, fun n it Γ1 J S H1 ⟨Iv, i0, is, ie⟩ fd R2 D hD => ?_⟩
  have r0 : Rel K G0 [] (T ++ (S ++ F)) (wipe σ vs) H1 (wipeG Γ1 vs) := (Rel.allF R2).wiped vs
  have r1 : Rel K G0 [] ((.ref D, .own []) :: (T ++ (S ++ F))) (wipe σ vs) (upd H1 D (.lst [])) (wipeG Γ1 vs) := (Rel.newL (M := []) (ds := []) (vs := []) (F := T ++ (S ++ F)) r0 rfl hD).toF'
  have pq : ∀ M N L : Ent, (M ++ (N ++ L)).Perm (N ++ (M ++ L)) := fun M N L => by
    rw [← List.append_assoc, ← List.append_assoc]
    exact List.perm_append_comm.append_right L
  have rS : ∀ {M : Ent} {σ H Γ}, Rel K G0 [] (M ++ (T ++ (S ++ F))) σ H Γ → R K G0 H (S ++ (M ++ (T ++ (ents σ Γ ++ F)))) := fun {M σ H Γ} r => r.r.perm (by
    show (ents σ Γ ++ (M ++ (T ++ (S ++ F)))).Perm (S ++ (M ++ (T ++ (ents σ Γ ++ F))))
    refine (pq (ents σ Γ) M _).trans ?_
    refine (List.Perm.append_left M ((pq (ents σ Γ) T _).trans (List.Perm.append_left T (pq (ents σ Γ) S F)))).trans ?_
    refine (List.Perm.append_left M (pq T S _)).trans (pq M S _))
  refine ⟨fun i m H => m = n - i ∧ i ≤ n ∧ ∃ acc Γ, Iv i acc Γ ∧ Rel K G0 [] ((.ref D, .own acc) :: (T ++ (S ++ F))) (wipe σ vs) H Γ, ⟨n, rfl, Nat.zero_le _, [], _, i0, r1⟩, ?_⟩
  rintro i m H2 ⟨rfl, hle, acc, Γ2, iv, R3⟩
  by_cases hlt : i < n
  · obtain ⟨g1, g2⟩ := fd.step (rS (M := [(.ref D, .own acc)]) R3) hlt
    refine .inr ⟨g1, fun H' => ∃ acc Γ, Iv (i + 1) acc Γ ∧ Rel K G0 [] ((.ref D, .own acc) :: (T ++ (S ++ F))) (wipe σ vs) H' Γ, fun H' h => ⟨n - (i + 1), by omega, rfl, hlt, h⟩, fun x H' hy => ?_⟩
    have r4 := g2 x H' hy
    have R4 : Rel K G0 [] ((x, .fz (it i)) :: ((.ref D, .own acc) :: (T ++ (S ++ F)))) (wipe σ vs) H' Γ2 := ⟨R3.fit, R3.al, r4.perm (by
      show ((x, O.fz (it i)) :: (S ++ ([(V.ref D, O.own acc)] ++ (T ++ (ents (wipe σ vs) Γ2 ++ F))))).Perm (ents (wipe σ vs) Γ2 ++ ([(x, O.fz (it i))] ++ ([(V.ref D, O.own acc)] ++ (T ++ (S ++ F)))))
      refine List.Perm.trans ?_ (pq [(x, O.fz (it i))] (ents (wipe σ vs) Γ2) _)
      refine List.Perm.cons _ ?_
      refine (pq S [(V.ref D, O.own acc)] _).trans ?_
      refine List.Perm.trans ?_ (pq [(V.ref D, O.own acc)] (ents (wipe σ vs) Γ2) _)
      refine List.Perm.cons _ ?_
      refine (pq S T _).trans ?_
      refine List.Perm.trans ?_ (pq T (ents (wipe σ vs) Γ2) _)
      exact List.Perm.append_left T (pq S _ F))⟩
    refine ⟨G0, Γ2, (.ref D, .own acc) :: (T ++ (S ++ F)), it i, _, R4, is i acc Γ2 hlt iv, fun Γ3 σ3 H3 k3 ag R5 => ⟨?_, G0, Γ3, [], _, _, R5, k3, fun b Γ4 H4 k4 R6 => ?_⟩⟩
    · rw [agree_wipe ag hw]
      exact lc_read.wipe_wipe σ vs
    · have hw3 : wipe σ3 vs = wipe σ vs := by rw [agree_wipe ag hw]; exact lc_read.wipe_wipe σ vs
      cases b with
      | false =>
        refine iteF ?_
        refine ⟨acc, _, k4.2 rfl, ?_⟩
        rw [← hw3]
        exact Rel.wiped R6 vs
      | true =>
        refine iteT ?_
        refine ⟨G0, Γ4, [], _, _, R6, k4.1 rfl, fun n1 it1 Γ5 J1 S1 H5 ⟨Jv, j0, js, je⟩ fd1 R7 => ?_⟩
        have R7 : Rel K G0 [] (S1 ++ ((.ref D, .own acc) :: (T ++ (S ++ F)))) σ3 H5 Γ5 := R7
        have R8 : Rel K G0 [] ((.ref D, .own acc) :: (S1 ++ (T ++ (S ++ F)))) σ3 H5 Γ5 := ⟨R7.fit, R7.al, R7.r.perm (List.Perm.append_left (ents σ3 Γ5) List.perm_middle)⟩
        refine lc_in (F := T ++ (S ++ F)) hw1 fd1 j0 js (R8.wiped vs1) fun acc' Γ6 H6 jv R9 => ⟨acc', _, je acc' Γ6 jv, ?_⟩
        obtain ⟨f1, f2⟩ := fit_unwipe R9.fit
        have R10 : Rel K G0 [] ((.ref D, .own acc') :: (S1 ++ (T ++ (S ++ F)))) σ3 H6 Γ6 := ⟨f1, fun _ _ m => by simp at m, by
          show R K G0 H6 (ents σ3 Γ6 ++ _)
          rw [f2]
          exact R9.r⟩
        have R11 : Rel K G0 [] (S1 ++ ((.ref D, .own acc') :: (T ++ (S ++ F)))) σ3 H6 Γ6 := ⟨R10.fit, R10.al, R10.r.perm (List.Perm.append_left (ents σ3 Γ6) List.perm_middle.symm)⟩
        rw [← hw3]
        exact (R11.dropF).wiped vs
  · obtain rfl : i = n := by omega
    have fr := fd.stop (rS (M := [(.ref D, .own acc)]) R3)
    refine .inl ⟨fr, ?_⟩
    obtain ⟨f1, f2⟩ := fit_unwipe R3.fit
    have R4 : Rel K G0 [] ((.ref D, .own acc) :: (T ++ (S ++ F))) σ H2 Γ2 := ⟨f1, fun _ _ m => by simp at m, by
      show R K G0 H2 (ents σ Γ2 ++ _)
      rw [f2]
      exact R3.r⟩
    have R5 : Rel K G0 T (S ++ ((.ref D, .own acc) :: F)) σ H2 Γ2 := Rel.unallF R2.al ⟨R4.fit, R4.al, R4.r.perm (by
      show (ents σ Γ2 ++ ((V.ref D, O.own acc) :: (T ++ (S ++ F)))).Perm (ents σ Γ2 ++ (T ++ (S ++ ((V.ref D, O.own acc) :: F))))
      refine List.Perm.append_left _ ?_
      refine List.Perm.trans ?_ (List.Perm.append_left T List.perm_middle.symm)
      exact List.perm_middle.symm)⟩
    exact q _ Γ2 _ H2 (ie acc Γ2 iv) (Rel.ofF' (by intro _ z; cases z) R5.dropF)
theorem de_lc2 {vs1 : List Nat} (hN : X.N.Nodup) (hi : DI X tg iter τi) (ok : BlkOk X.N X.env.scope scope own)
    (hg : ∀ (s : Shared) (H : Hp) (C : Addr) (cl : List (Str × Addr)) (fp : List Addr), DG (X.blk s H scope (compEnvC scope cl C X.env) fp) tg ws γ) (ht : ∀ (s : Shared) (H : Hp) (C : Addr) (cl : List (Str × Addr)) (fp : List Addr), DTs (X.blk s H scope (compEnvC scope cl C X.env) fp) ifs tt)
    (hi1 : ∀ (s : Shared) (H : Hp) (C : Addr) (cl : List (Str × Addr)) (fp : List Addr), DI (X.blk s H scope (compEnvC scope cl C X.env) fp) tg1 iter1 τi1)
    (hg1 : ∀ (s : Shared) (H : Hp) (C : Addr) (cl : List (Str × Addr)) (fp : List Addr), DG (X.blk s H scope (compEnvC scope cl C X.env) fp) tg1 ws1 γ1) (ht1 : ∀ (s : Shared) (H : Hp) (C : Addr) (cl : List (Str × Addr)) (fp : List Addr), DTs (X.blk s H scope (compEnvC scope cl C X.env) fp) ifs1 tt1)
    (he : ∀ (s : Shared) (H : Hp) (C : Addr) (cl : List (Str × Addr)) (fp : List Addr), DE (X.blk s H scope (compEnvC scope cl C X.env) fp) elt te) (hw : ∀ i ∈ ws, i ∈ own.map (·.2) := by decide) (hw1 : ∀ i ∈ ws1, i ∈ vs1 := by decide) (hv : ∀ i ∈ vs1, i ∈ own.map (·.2) := by decide) (hc : X.calm = true := by rfl)
    (hs : ∀ x, foldedSetIterable iter X.env x = pure x := by intro _; rfl) (hs1 : ∀ env x, foldedSetIterable iter1 env x = pure x := by intro _ _; rfl) :
    DE X (.ListComp elt [⟨tg, iter, ifs, 0⟩, ⟨tg1, iter1, ifs1, 0⟩] scope pos) (dLc2 τi γ tt τi1 γ1 tt1 te (own.map (·.2)) vs1) := peI (pe_lc2 hc hN hi ok hv hg ht hi1 hg1 ht1 he hs hs1) fun σ H Q h => lc2_read hw hw1 h
end
theorem take_at {α : Type} {l : List α} {i : Nat} (d : α) (h : i < l.length) : l.take (i + 1) = l.take i ++ [l.getD i d] := by
  rw [List.take_add_one, List.getElem?_eq_getElem h, List.getD_eq_getElem?_getD, List.getElem?_eq_getElem h]
  rfl
theorem range_at (i : Nat) : List.range (i + 1) = List.range i ++ [i] := List.range_succ
end Dl
end
section
namespace Dl
open PySem PySem.Spec PyProof.Rows L2
end Dl
end
section
namespace Dl
open PySem PySem.Spec PyProof.Rows L2
theorem R.toBox {K : PySem.W.Frag} {G0 H : Hp} {L : Ent} {v : V} {a b c : Int} {n : Nat} (r : R K G0 H ((v, .own [.int a, .int b, .int c]) :: L)) (h1 : 0 ≤ a) (h2 : 0 ≤ b) (h3 : b < 2 ^ 62) (h4 : 0 ≤ c) (h5 : c ≤ (n : Int)) : ∃ p, R K G0 H ((v, .box p n) :: L) := by
  obtain ⟨G, f, g, s0, s1, e1, e2, nd, hn⟩ := R.cons_iff.mp r
  unfold dn at e1
  obtain ⟨p, vs, rfl, rfl, e3, e4⟩ := e1
  refine ⟨p, R.cons_iff.mpr ⟨G, [p], g, s0, s1, ?_, e2, nd, hn⟩⟩
  unfold dn
  have ev := dpAll_ints_inv (ns := [a, b, c]) e4
  subst ev
  exact ⟨a, b, c, rfl, rfl, e3, h1, h2, h3, h4, h5⟩
section
variable {X : Cx} {τ : TEd} {pos : Pos} {e : Expr}
/-- name = e, a new box -/
def isBox (n : Nat) (o : O) : Prop := ∃ a b c : Int, o = .own [.int a, .int b, .int c] ∧ 0 ≤ a ∧ 0 ≤ b ∧ b < 2 ^ 62 ∧ 0 ≤ c ∧ c ≤ (n : Int)
end
theorem tabs_start {K : PySem.W.Frag} {G H : Hp} : ∀ {L : List (Str × Str)}, (∀ p ∈ L, H (He.cT K (p.1, none)).2 = some (.tbl #[])) →
    dnAll K G H (L.map fun p => O.ob (TabO p.2)) (L.map fun p => V.ref (He.cT K (p.1, none)).2) (L.map fun p => (He.cT K (p.1, none)).2)
  | [], _ => by
    show dnAll K G H [] [] []
    unfold dnAll
    exact ⟨rfl, rfl⟩
  | p :: L, h => by
    show dnAll K G H (O.ob (TabO p.2) :: L.map fun p => O.ob (TabO p.2)) (V.ref _ :: L.map fun p => V.ref (He.cT K (p.1, none)).2) ([(He.cT K (p.1, none)).2] ++ L.map fun p => (He.cT K (p.1, none)).2)
    unfold dnAll
    refine ⟨_, _, _, _, rfl, rfl, ?_, tabs_start fun q hq => h q (List.mem_cons_of_mem _ hq)⟩
    unfold dn
    exact ⟨⟨_, #[], [], rfl, rfl, h p List.mem_cons_self, True.intro, (fun pos cv hc => by
      have z : codeAmong pos [] = some cv := hc
      simp [codeAmong] at z), fun c hc => by simp at hc⟩, tabO_stab⟩
/-- the tables' addresses -/
def tabA (K : PySem.W.Frag) : List Addr := (tabL K).map fun p => (He.cT K (p.1, none)).2
theorem law_endT {K : PySem.W.Frag} {φ : List Int → List PyData → (O → Prop) → Prop} {H : Hp} {a : Addr} {ns : List Int} {E : XK} (hN : (tabA K).Nodup) (hT : ∀ b ∈ tabA K, H b = some (.tbl #[])) (hS : SqL K H a (ns.map V.int)) (h : φ ns [] fun o => o = .fz (.bool true)) : spS K 0 φ [.ref a] H (fun v _ => v = .bl true) E := by
  refine ⟨off H (tabA K), .ref a, ns, [], [], [], fun o => o = .fz (.bool true), rfl, rfl, rfl, ?_, h, fun o v H' e _ r => ?_⟩
  · have n : ∀ {o : HO}, H a = some o → ¬ tabby o → a ∉ tabA K := fun {o} e t z => by
      have q := hT a z
      rw [e] at q
      cases q
      exact t trivial
    refine R.cons_iff.mpr ⟨off H (tabA K), [], tabA K, Same.refl _, off_same, ?_, ?_, hN, fun b hb => if_pos hb⟩
    · unfold dn
      refine ⟨⟨a, rfl, ?_, rfl⟩, stab_S K ns⟩
      rcases hS with (q | ⟨o, q⟩) | q
      · exact Or.inl (Or.inl ((off_at (n q (fun z => z))).trans q))
      · exact Or.inl (Or.inr ⟨o, (off_at (n q (fun z => z))).trans q⟩)
      · exact Or.inr q
    · have e1 : tO K [] = (tabL K).map fun p => O.ob (TabO p.2) := tabE_O
      have e2 : tV K [] = (tabL K).map fun p => V.ref (He.cT K (p.1, none)).2 := by
        show (tabE K).map (·.1) = _
        unfold tabE
        rw [List.map_map]
        rfl
      show dnAll K _ H (tO K []) (tV K []) _
      rw [e1, e2]
      exact tabs_start fun p hp => hT _ (List.mem_map.mpr ⟨p, hp, rfl⟩)
  · subst e
    exact r.bl
/-- .. of a program without such defs -/
theorem law_end {K : PySem.W.Frag} {φ : List Int → List PyData → (O → Prop) → Prop} {H : Hp} {a : Addr} {ns : List Int} {E : XK} (hK : tabL K = []) (hS : SqL K H a (ns.map V.int)) (h : φ ns [] fun o => o = .fz (.bool true)) : spS K 0 φ [.ref a] H (fun v _ => v = .bl true) E := by
  have e : tabA K = [] := by
    unfold tabA
    rw [hK]
    rfl
  exact law_endT (by rw [e]; exact List.nodup_nil) (by rw [e]; intro b hb; simp at hb) hS h
/-- a def without defaults as it stands -/
theorem toFun {K : PySem.W.Frag} {x qual : Str} {st : Stmt} {f : Addr} {fd : FuncData} (F : FunD K x qual (defArgs st) (defBody st) (defScope st) [] [] f fd) : Fun K x qual st f fd := by
  obtain ⟨oc, od, dV, kV, dc, pm, an, cd, ct, sl, h1, h2, h3, h4, _⟩ := F.ex
  have e : dV = .none := h4.elim (fun z => z.2) fun z => absurd rfl z.1
  subst e
  exact ⟨⟨oc, od, kV, dc, pm, an, cd, ct, sl, h1, h2, h3⟩, F.kp⟩
end Dl
end
section
set_option maxHeartbeats 4000000
namespace Dl
open PySem PySem.Spec PyProof.Rows L2 PySem.W
section
variable {M : Model} {K : Frag}
theorem loop1 {cls : Value} {h : Heap} (X : K.In h) {h2 : Heap} {g : Array GenState} {d : Drawn} {tk : Nat} {os : OsState} (k : ∀ b o, h.get? b = some o → h2.get? b = some o) {A : Around} {E : Value → Shared → Prop} {f : Value → PUnit → Sem (ForInStep PUnit)} 
    (hf : ∀ c v Q, exmOne K cls c = some v → Q (ForInStep.yield PUnit.unit) ⟨h2, g, d, tk, os⟩ → wpAny M A (f c PUnit.unit) Q E ⟨h2, g, d, tk, os⟩) :
    ∀ (cs : List Value) (b : Bool) (Q : PUnit → Shared → Prop), exmAny K cls cs = some b → Q PUnit.unit ⟨h2, g, d, tk, os⟩ → wpAny M A (forIn cs PUnit.unit f) Q E ⟨h2, g, d, tk, os⟩
  | [], b, Q, _, q => by
    rw [List.forIn_nil]
    exact wpAny_pure q
  | c :: cs, b, Q, e, q => by
    obtain ⟨b1, d1, x1, y1, _⟩ := exmAny_cons e
    rw [List.forIn_cons]
    exact wpAny_bind (hf c b1 _ x1 (loop1 X k hf cs d1 Q y1 q))
theorem loop2 {cls : Value} {h : Heap} (X : K.In h) {h2 : Heap} {g : Array GenState} {d : Drawn} {tk : Nat} {os : OsState} {A : Around} {E : Value → Shared → Prop} {f : Value → Option Bool × Unit → Sem (ForInStep (Option Bool × Unit))}
    (hf : ∀ c v Q, exmOne K cls c = some v → Q (if v = true then ForInStep.done (some true, ()) else ForInStep.yield (none, ())) ⟨h2, g, d, tk, os⟩ → wpAny M A (f c (none, ())) Q E ⟨h2, g, d, tk, os⟩) :
    ∀ (cs : List Value) (b : Bool) (Q : Option Bool × Unit → Shared → Prop), exmAny K cls cs = some b → Q (if b = true then (some true, ()) else (none, ())) ⟨h2, g, d, tk, os⟩ → wpAny M A (forIn cs (none, ()) f) Q E ⟨h2, g, d, tk, os⟩
  | [], b, Q, e, q => by
    rw [List.forIn_nil]
    have e : some false = some b := e
    cases e
    exact wpAny_pure q
  | c :: cs, b, Q, e, q => by
    obtain ⟨b1, d1, x1, y1, z1⟩ := exmAny_cons e
    rw [List.forIn_cons]
    refine wpAny_bind (hf c b1 _ x1 ?_)
    cases b1 with
    | true =>
      rw [if_pos rfl]
      subst z1
      exact wpAny_pure q
    | false =>
      rw [if_neg Bool.false_ne_true]
      have z : b = d1 := z1
      subst z
      exact loop2 X hf cs b Q y1 q
theorem exm_list {cls : Value} {tp e : Addr} {cs : List Value} {b : Bool} {h : Heap} (X : K.In h) (LT : Looks M h (typeOf (.ref e)) cls) (hp : IsTup h tp cs.toArray) (hx : exmAny K cls cs = some b) : Looks M h (excMatches (.ref e) (.ref tp)) b := by
  intro A Q E s k₀ q
  obtain ⟨h2, g, d, tk, os⟩ := s
  have k : ∀ b o, h.get? b = some o → h2.get? b = some o := k₀
  obtain ⟨ot, ht, hc, n, hd⟩ := hp
  have LT0 : Looks M h (isInstance (.ref tp) (.type "tuple")) true := ((Looks.ld ht).andThen (by rw [hc]; exact .now)).andThen (Looks.of_pure isSubtype_tuple_tuple)
  have LT := LT.keeps k
  have LT0 := LT0.keeps k
  have ht' := k _ _ ht
  unfold excMatches
  refine wpAny_bind (LT0.at ?_)
  dsimp only
  rw [if_pos rfl]
  first
    | refine wpAny_bind (wpAny_seqItems ht' hd ?_)
    | refine wpAny_bind (wpAny_bind (wpAny_seqItems ht' hd (wpAny_pure ?_)))
  refine wpAny_bind (wpAny_pure ?_)
  show wpAny _ _ (bind (forIn cs _ _) _) _ _ _
  refine wpAny_bind (loop1 X k (fun c v Q hv hq => ?_) cs b _ hx ?_)
  · obtain ⟨e1, _⟩ := exm_cls (M := M) X hv
    refine wpAny_bind ((e1.keeps k).at ?_)
    exact wpAny_pure hq
  · refine wpAny_bind (LT.at ?_)
    show wpAny _ _ (bind (forIn cs _ _) _) _ _ _
    refine wpAny_bind (loop2 X (fun c v Q hv hq => ?_) cs b _ hx ?_)
    · obtain ⟨_, s1⟩ := exm_cls (M := M) X hv
      refine wpAny_bind ((s1.keeps k).at ?_)
      cases v with
      | true => exact wpAny_pure hq
      | false => exact wpAny_pure hq
    · cases b with
      | true => exact wpAny_pure q
      | false => exact wpAny_pure q
end
end Dl
end
section
set_option maxHeartbeats 4000000
namespace Dl
open PySem PySem.Spec PyProof.Rows L2
structure XB (B newId initId : String) (bm : List Value) : Prop where
  ex : ExcBaseFacts B newId initId bm
  st : StoreFacts B bm "object.__setattr__" "object"
  ty : typeOf (.type B) = pure (.type "type")
abbrev bmOf (B : String) : List Value := [.type B, .type "Exception", .type "BaseException", .type "object"]
theorem xb_Lookup : XB "LookupError" "LookupError.__new__" "LookupError.__init__" (bmOf "LookupError") := ⟨F.excBase_LookupError, F.store_LookupError, by kernel_rfl⟩
/-- what the written part says of the class at C -/
structure XC (K : PySem.W.Frag) (C : Addr) (newId : String) (bm : List Value) : Prop where
  ob : ∃ nm q N bs sn sub ab col dd k0 k1 k2 k3 k5, K.lookup C = some (excClassObj nm q C N bs bm true sn sub ab col dd k0 k1 k2 k3 k5 newId)
  sa : PySem.W.findIn K (.ref C) "__setattr__" = some (some (.builtin "object.__setattr__"))
  ex : PySem.W.subIn K (.ref C) (.type "BaseException") = some true
  ty : PySem.W.typeIn K (.ref C) = some (.type "type")
  kp : PySem.W.keepIn K (.ref C) = true
section
open Builtin Builtin.ObjectAttr
variable {prog : Program} {w : World} {A : Around} {R : Result → Shared → Prop} {hp : Heap} {g : Array GenState} {d : Drawn} {t : Nat} {os : OsState}
theorem x_store {K : W.Frag} {B : String} {bm : List Value} {f : Str} {tk : Tok} {v : Value} {x C : Addr} {fv : Array Value} {cd : ClassData} (S : StoreFacts B bm "object.__setattr__" "object")
    (kin : K.In hp) (hx : hp.get? x = some { cls := .ref C, data := .fields fv }) (hcd : W.clsIn K C = some cd) (hm : cd.mro = .ref C :: bm) (hh : cd.hasDict = true) (hno : W.findIn K (.ref C) f = some none)
    (hq : ∀ h' tk' dx, (∀ b o, b ≠ x → hp.get? b = some o → h'.get? b = some o) → hp.objs.size ≤ dx → dx ≠ x → h'.get? x = some { cls := .ref C, dict := some dx, data := .fields fv } →
      h'.Ns1 dx (fun y => if y = f then some v else none) → R (.ok (.ret .none)) ⟨h', g, d, tk', os⟩) :
    codeAny (model prog w) A (.call (.builtin "object.__setattr__") ⟨[.ref x, .str f tk, v], []⟩) R ⟨hp, g, d, t, os⟩ := by
  have at0 : W.InstAt hp x { cls := .ref C, data := .fields fv } C none := ⟨hx, rfl, rfl, trivial⟩
  have so := F.store_object
  have hob : cd.mro.contains (.type "object") = true := by rw [hm, List.contains_cons, S.hasOwner, Bool.or_true]
  have nem : cd.mro.isEmpty = false := by rw [hm]; rfl
  have far : x ≠ hp.objs.size := Nat.ne_of_lt (Heap.lt_size hx)
  have isO : W.Looks (model prog w) hp (isInstance (.ref x) (.type "object")) true := at0.type.andThen (W.looks_mroIn kin (by unfold W.mroIn; rw [hcd, Option.bind_some, if_neg (by rw [nem]; decide), hob]))
  refine codeAny_call_builtin so.slot.plain so.entry (@W.check_slot (model prog w) _ _ ⟨hp, g, d, t, os⟩ "object.__setattr__" "object" "__setattr__" (.ref x) [.str f tk, v] [] _ so.kind so.split isO (so.args (.ref x) (.str f tk) v) ?_)
  have mr : W.Looks (model prog w) hp (mroOf (.ref C)) cd.mro := (W.looks_clsIn kin hcd).andThen .now
  have no : W.Looks (model prog w) hp (storeTaker? none) none := .now
  have cl : W.Looks (model prog w) hp (classData C) cd := W.looks_clsIn kin hcd
  rw [W.osa_eq, refuse_eq]
  refine wpAny_bind (wpAny_bind (at0.type.at (wpAny_bind (mr.at ?_))))
  rw [hm, refuseLoop_ref, S.passes]
  refine wpAny_pure (wpAny_bind (at0.type.at (wpAny_bind ((W.looks_findIn kin hno).at (wpAny_bind (no.at ?_))))))
  show wpAny _ _ (storeInOwnDict (.ref x) (.ref C) (.str f tk) f v false) _ _ _
  obtain ⟨nm, bs, mro, ns, qn, hd, sn, sb, ab, col, dl⟩ := cd
  dsimp only at hh
  subst hh
  unfold storeInOwnDict ownDictForStores
  repeat (first | with_reducible refine HandSPX.store_in_new ?_ ?_ | with_reducible refine wpAny_loadPart_at hx ?_ | with_reducible refine cl.at ?_ | wp_step)
  · exact ⟨_, #[], _, (Heap.get?_update_ne _ _ _ _ far.symm).trans (Heap.get?_push_at rfl rfl), rfl, fun e q => absurd q (by simp), fun _ => rfl⟩
  · intro h' tk' hn' hs
    have hx1 : (hp.push { cls := .type "dict", data := .dict #[] }).get? x = some { cls := .ref C, data := .fields fv } := Heap.get?_push_of_some _ hx
    refine hq h' tk' hp.objs.size (fun b o ne q => ?_) (Nat.le_refl _) far.symm ?_ hn'
    · exact (hs.2 b (Nat.ne_of_lt (Heap.lt_size q))).trans ((Heap.get?_update_ne _ _ _ _ ne).trans (Heap.get?_push_of_some _ q))
    · exact (hs.2 x far).trans (Heap.get?_update_self _ hx1 rfl)
end
theorem exd_frz {e : Addr} {fs : List (Str × V)} {o : Obj} {u : HO} : exd e fs ≠ .frz o u := fun z => by
  have q : HO.ext _ = HO.frz o u := z
  cases q
theorem exd_tbl {e : Addr} {fs : List (Str × V)} {ps : Array Value} : exd e fs ≠ .tbl ps := fun z => by
  have q : HO.ext _ = HO.tbl ps := z
  cases q
section
variable {X : Cx} {pins : List (Addr × Obj)} {σ : L2.St} {H : Hp} {s : Shared} {a C dx : Addr} {f : Str} {y : V} {u : Value} {Q : Unit → Shared → Prop} {E : Value → Shared → Prop} {A : Around} {B newId initId : String} {bm : List Value}
theorem XC.cd {K : PySem.W.Frag} (T : XC K C newId bm) : ∃ cd nm q N bs sn sub ab col dd k0 k1 k2 k3 k5, PySem.W.clsIn K C = some cd ∧ cd.mro = .ref C :: bm ∧ cd.hasDict = true ∧ K.lookup C = some (excClassObj nm q C N bs bm true sn sub ab col dd k0 k1 k2 k3 k5 newId) := by
  obtain ⟨nm, q, N, bs, sn, sub, ab, col, dd, k0, k1, k2, k3, k5, hC⟩ := T.ob
  exact ⟨{ name := nm, bases := bs, mro := .ref C :: bm, ns := N, qualname := q, hasDict := true, slotNames := sn, subclasses := sub, abstract := ab, collection := col, hasDel := false }, nm, q, N, bs, sn, sub, ab, col, dd, k0, k1, k2, k3, k5, by unfold PySem.W.clsIn; rw [hC] <;> rfl, rfl, rfl, hC⟩
/-- self.f = y on the exception that is being made -/
theorem x_set (b : XB B newId initId bm) (T : XC X.K C newId bm) (I : Inv X pins σ H s) (e : H a = some (exo a C none)) (hno : PySem.W.findIn X.K (.ref C) f = some none) (ry : RelV y u)
    (h : ∀ dx s', H dx = none → dx ≠ a → Inv X pins σ (upd (upd H dx (exd dx [(f, y)])) a (exo a C (some dx))) s' → Q () s') : wpAny (model X.prog X.w) A (setAttr (.ref a) f u) Q E s := by
  obtain ⟨cd, _, _, _, _, _, _, _, _, _, _, _, _, _, _, hcl, hm, hh, _⟩ := T.cd
  obtain ⟨t1, ho⟩ := exo_at I.hok e
  obtain ⟨hp, g, d, t, os⟩ := s
  refine PySem.W.set_plain I.kIn (ox := { cls := .ref C, dict := none, data := .fields #[.ref t1, .none, .none, .none, .bool false, .none] }) (od := none) ⟨ho, rfl, rfl, trivial⟩ T.sa ?_
  refine x_store b.st I.kIn ho hcl hm hh hno (fun h' tk' dx k dn dne hx hn => ?_)
  -- in between: the new dict laid, the exception as it was
  have old : (h'.update a fun _ => ({ cls := .ref C, dict := none, data := .fields #[.ref t1, .none, .none, .none, .bool false, .none] } : Obj)).get? a = some { cls := .ref C, dict := none, data := .fields #[.ref t1, .none, .none, .none, .bool false, .none] } := Heap.get?_update_self _ hx rfl
  have els : ∀ b, b ≠ a → (h'.update a fun _ => ({ cls := .ref C, dict := none, data := .fields #[.ref t1, .none, .none, .none, .bool false, .none] } : Obj)).get? b = h'.get? b := fun b ne => Heap.get?_update_ne _ _ _ _ ne
  have I1 := I.laid (t' := t) (a := dx) (o := exd dx [(f, y)]) (h' := h'.update a fun _ => ({ cls := .ref C, dict := none, data := .fields #[.ref t1, .none, .none, .none, .bool false, .none] } : Obj)) (fun b o q => by
    by_cases hb : b = a
    · subst hb
      have q1 : hp.get? b = some o := q
      rw [ho] at q1
      rw [old]
      exact q1
    · rw [els b hb]
      exact k b o hb q) dn (exd_ok (hn.at fun o q => by rw [els dx dne]; exact q) (relO_put (fs := []) ry fun g => True.intro))
  have e1 : upd H dx (exd dx [(f, y)]) a = some (exo a C none) := by rw [upd_ne (Ne.symm dne)]; exact e
  have I2 := I1.write (t' := tk') (x := a) (e := a) (o := exo a C (some dx)) (h' := h') (by rw [e1]; exact True.intro) (.inl rfl) (fun b o hb q => by
    have q1 : (h'.update a fun _ => ({ cls := .ref C, dict := none, data := .fields #[.ref t1, .none, .none, .none, .bool false, .none] } : Obj)).get? b = some o := q
    rw [els b hb] at q1
    exact q1) ⟨_, hx⟩ (exo_ok hx)
  exact h dx _ (I.hok.fresh dn) dne I2
/-- B.__init__(self, ..) -/
theorem x_init {us : List Value} {Q : Value → Shared → Prop} (b : XB B newId initId bm) (T : XC X.K C newId bm) (I : Inv X pins σ H s) (e : H a = some (exo a C none)) (hl : us.length ≤ sizeLine) (h : ∀ s', Inv X pins σ H s' → Q .none s') :
    wpAny (model X.prog X.w) A (call (.builtin initId) (.ref a :: us)) Q E s := by
  obtain ⟨_, _, _, _, _, _, _, _, _, _, _, _, _, _, _, _, _, _, hC⟩ := T.cd
  obtain ⟨t1, ho⟩ := exo_at I.hok e
  obtain ⟨hp, g, d, t, os⟩ := s
  refine wpAny_call (HandSPX.init_base b.ex (fun _ => rfl) (I.kIn _ _ hC) ho hl fun h' t2 k hx => ?_)
  have J := I.write (t' := t) (x := a) (e := a) (o := exo a C none) (h' := h') (by rw [e]; exact True.intro) (.inl rfl) k ⟨_, hx⟩ (exo_ok hx)
  have same : upd H a (exo a C none) = H := funext fun c => by
    by_cases hc : c = a
    · rw [hc, upd_same, e]
    · rw [upd_ne hc]
  rw [same] at J
  exact h _ J
end
section
variable {X : Cx} {pins : List (Addr × Obj)} {σ : L2.St} {H1 H2 : Hp} {Q : XK} {s1 s2 : Shared} {hm : Heap} {a C d : Addr} {fs : List (Str × V)}
theorem x_end (T : Raises X (.ref C)) (I : Inv X pins σ H1 s1) (ha : s1.heap.objs.size ≤ a) (k : ∀ b o, s1.heap.get? b = some o → hm.get? b = some o) (un : Un (frs X.stack) [] (upd H1 a (exo a C none)) H2 hm s2.heap) (hok : HOk X.prog X.w H2 s2.heap)
    (ho : s2.os = s1.os) (hb : AllBare s2.gens) (ea : H2 a = some (exo a C (some d))) (ed : H2 d = some (exd d fs)) (q : Q (.ref C) (some d) (upd (del H2 a) d (.xd fs))) : MkP X pins σ Q (.ref a) s2 := by
  obtain ⟨t0, ob⟩ := exo_at hok ea
  obtain ⟨mA, hns, rel⟩ := exd_at hok ed
  have n1 : H1 a = none := I.hok.fresh ha
  have dna : d ≠ a := fun z => by
    obtain ⟨o, es, ep, e1, e2, _⟩ := hns
    rw [z, ob] at e1
    cases e1
    cases e2
  obtain ⟨G, gin, gout⟩ := restrict s2.heap fun c => decide (c ≠ a)
  have g1 : ∀ c, c ≠ a → G.get? c = s2.heap.get? c := fun c hc => gin c (decide_eq_true hc)
  have g0 : G.get? a = none := gout a (by simp)
  have old : ∀ {c : Addr} {o : Obj}, s1.heap.get? c = some o → c ≠ a := fun z => Nat.ne_of_lt (Nat.lt_of_lt_of_le (Heap.lt_size z) ha)
  have fre : ∀ {c : Addr}, c ≠ a → H1 c = none → upd H1 a (exo a C none) c = none := fun hc n => by rw [upd_ne hc]; exact n
  have h3 : ∀ {c : Addr}, c ≠ a → c ≠ d → upd (del H2 a) d (.xd fs) c = H2 c := fun h1 h2 => by rw [upd_ne h2, del_ne h1]
  have lift : ∀ {c : Addr} {o : HO}, H1 c = some o → upd H1 a (exo a C none) c = some o := fun z => by rw [upd_ne (ne_of_none z n1)]; exact z
  have U : Un (frs X.stack) [] H1 (upd (del H2 a) d (.xd fs)) s1.heap G := by
    constructor
    · intro c o z n hf hx
      exact (g1 c (old z)).trans (un.keep c o (k c o z) (fre (old z) n) hf hx)
    · intro c o z n hf hx
      obtain ⟨sl, w⟩ := un.slot c o (k c o z) (fre (old z) n) hf hx
      exact ⟨sl, (g1 c (old z)).trans w⟩
    · intro c o z n hx
      have w := un.free c o (k c o z) (fre (old z) n) hx
      have cd : c ≠ d := fun e => by
        rw [e, ed] at w
        cases w
      rw [h3 (old z) cd]
      exact w
    · intro c o z hx
      obtain ⟨o2, w⟩ := un.there c o (k c o z) hx
      exact ⟨o2, (g1 c (old z)).trans w⟩
    · intro c xs z
      have w := un.tups c xs (lift z)
      rw [h3 (ne_of_none z n1) (at_ne ed w exd_tup)]
      exact w
    · intro c o v z
      have w := un.frzs c o v (lift z)
      rw [h3 (ne_of_none z n1) (at_ne ed w exd_frz)]
      exact w
    · intro c ps z
      obtain ⟨more, w⟩ := un.tbls c ps (lift z)
      refine ⟨more, ?_⟩
      rw [h3 (ne_of_none z n1) (at_ne ed w exd_tbl)]
      exact w
  have hok3 : HOk X.prog X.w (upd (del H2 a) d (.xd fs)) G := by
    intro c o z
    by_cases hcd : c = d
    · subst hcd
      rw [upd_same] at z
      cases z
      exact ⟨mA, hns.at fun o y => (g1 c dna).trans y, rel⟩
    · rw [upd_ne hcd] at z
      have hca : c ≠ a := fun e => by
        rw [e, del_same] at z
        cases z
      rw [del_ne hca] at z
      have na : ∀ {x : Addr}, H2 x = some (.own c) → x ≠ a := fun hx => at_ne ea hx exo_own
      refine (hok c o z).stay (fun x v hx y => ?_) (fun x hx => ?_) (fun x xs hx => ?_)
      · rcases hx with hx | hx
        · rw [g1 x (by rw [hx]; exact hca)]
          exact y
        · rw [g1 x (na hx)]
          exact y
      · rw [h3 (na hx) (at_ne ed hx exd_own)]
        exact hx
      · rw [h3 (at_ne ea hx exo_tup) (at_ne ed hx exd_tup)]
        exact hx
  obtain ⟨hp2, g2, d2, t2, os2⟩ := s2
  have J : Inv X pins σ (upd (del H2 a) d (.xd fs)) ⟨G, g2, d2, t2, os2⟩ := I.call' (ch := []) ho U hok3 hb (fun c z => absurd z (by simp))
  refine ⟨a, _, _, ⟨G, g2, d2, t2, os2⟩, _, .ref C, some d, rfl, J, fun c o z => ?_, g0, ob, ⟨rfl, rfl⟩, rfl, rfl, ?_, rfl, hb, T, q⟩
  · by_cases hc : c = a
    · rw [hc] at z
      exact absurd (g0.symm.trans z) (by simp)
    · exact (g1 c hc).symm.trans z
  · rw [upd_ne (Ne.symm dna), del_same]
end
end Dl
end
section
set_option maxHeartbeats 4000000
namespace Dl
open PySem PySem.Spec PyProof.Rows L2
def exT (cls : Value) (d : Option Addr) (a : Addr) : HO := .ext fun h => ∃ oe vs, h.get? a = some oe ∧ Zc cls d oe ∧ oe.data = .fields vs
theorem exT_ok {P : Program} {w : World} {H : Hp} {h : Heap} {a : Addr} {cls : Value} {d : Option Addr} {oe : Obj} {vs : Array Value} (e : h.get? a = some oe) (z : Zc cls d oe) (hd : oe.data = .fields vs) : ObjOk P w H h a (exT cls d a) :=
  ⟨⟨oe, vs, e, z, hd⟩, ⟨oe, e⟩, fun _ _ ⟨oe, vs, e, z, hd⟩ k => ⟨oe, vs, k _ e, z, hd⟩⟩
theorem exT_at {P : Program} {w : World} {H : Hp} {h : Heap} {a : Addr} {cls : Value} {d : Option Addr} (ok : HOk P w H h) (e : H a = some (exT cls d a)) : ∃ oe vs, h.get? a = some oe ∧ Zc cls d oe ∧ oe.data = .fields vs :=
  (show ObjOk P w H h a (.ext fun h => ∃ oe vs, h.get? a = some oe ∧ Zc cls d oe ∧ oe.data = .fields vs) from ok a _ e).1
section
variable {X : Cx} {pins : List (Addr × Obj)} {σ : L2.St} {H : Hp} {s : Shared} {a : Addr} {cls : Value} {d : Option Addr} {oe : Obj} {vs : Array Value}
/-- an object of ours that nothing tracks yet -/
theorem x_track (I : Inv X pins σ H s) (na : H a = none) (e : s.heap.get? a = some oe) (z : Zc cls d oe) (hd : oe.data = .fields vs) (new : ∀ b o, X.s_0.heap.get? b = some o → b ≠ a) (nL : a ≠ X.env.locals) (np : ∀ p ∈ X.pn ++ pins, p.1 ≠ a) :
    Inv X pins σ (upd H a (exT cls d a)) s := by
  have ne : ∀ {b : Addr}, b ≠ a → upd H a (exT cls d a) b = H b := fun h => upd_ne h
  have ofs : ∀ {b : Addr} {o : HO}, H b = some o → upd H a (exT cls d a) b = some o := fun h => by rw [ne (ne_of_none h na)]; exact h
  constructor
  · exact I.ok
  · exact I.os
  · exact I.bare
  · constructor
    · exact I.base.keep
    · exact I.base.slot
    · intro b o h1 h2 h3
      rw [ne (new b o h1)]
      exact I.base.free b o h1 h2 h3
    · exact I.base.there
    · exact fun b xs h1 => ofs (I.base.tups b xs h1)
    · exact fun b o u h1 => ofs (I.base.frzs b o u h1)
    · intro b ps h1
      obtain ⟨more, h2⟩ := I.base.tbls b ps h1
      exact ⟨more, ofs h2⟩
  · exact I.loc
  · exact I.cell
  · rw [ne (Ne.symm nL)]
    exact I.free
  · intro x c h1
    have q : c ≠ a := fun w => by
      obtain ⟨v, o, ho, hv⟩ := I.cell x c h1
      rw [w, e] at ho
      cases ho
      rw [hd] at hv
      cases hv
    rw [ne q]
    exact I.freeC x c h1
  · intro p hp
    obtain ⟨h1, h2, h3⟩ := I.pin p hp
    refine ⟨h1, ?_, h3⟩
    rw [ne (np p hp)]
    exact h2
  · intro b o h1
    by_cases hb : b = a
    · subst hb
      rw [upd_same] at h1
      cases h1
      exact exT_ok e z hd
    · rw [ne hb] at h1
      exact (I.hok b o h1).stay (fun _ _ _ y => y) (fun _ y => ofs y) fun _ _ y => ofs y
  · exact I.len
end
/-- the expression behind except tells the classes cs -/
def ExTest (X : Cx) (t : Expr) (cs : List Value) : Prop := ∀ (a : Addr) (pn pins : List (Addr × Obj)) (σ : L2.St) (H : Hp) (s : Shared) (Q E : Value → Shared → Prop), Inv (X.suite a pn) pins σ H s →
  (∀ v h', (∀ b o, s.heap.get? b = some o → h'.get? b = some o) → (∀ (e : Addr) (cls : Value) (b : Bool), PySem.W.Looks (model X.prog X.w) h' (typeOf (.ref e)) cls → PySem.W.exmAny X.K cls cs = some b → PySem.W.Looks (model X.prog X.w) h' (excMatches (.ref e) v) b) → Q v { s with heap := h' }) →
  wpAny (model X.prog X.w) (X.A.mark (some (.ref a))) (eval t X.env) Q E s
inductive NmsOk (X : Cx) : List Expr → List Value → Prop
  | nil : NmsOk X [] []
  | cons {x : Str} {c : Value} {p : Pos} {es : List Expr} {cs : List Value} (hc : Names X x c) (hs : starEach (.Name x p :: es) X.env = (false, eval (.Name x p) X.env) :: starEach es X.env) (r : NmsOk X es cs) : NmsOk X (.Name x p :: es) (c :: cs)
theorem nms_run {X : Cx} {a : Addr} {pn pins : List (Addr × Obj)} {σ : L2.St} {H : Hp} {s : Shared} {E : Value → Shared → Prop} {pos : Pos} (I : Inv (X.suite a pn) pins σ H s) : ∀ {es : List Expr} {cs : List Value}, NmsOk X es cs → ∀ {Q : List Value → Shared → Prop}, Q cs s →
    wpAny (model X.prog X.w) (X.A.mark (some (.ref a))) (spliced (backTo pos (starEach es X.env))) Q E s := by
  intro es cs h
  induction h with
  | nil =>
    intro Q q
    exact Calls.spliced_nil q
  | @cons x c p es cs hc hs r ih =>
    intro Q q
    rw [hs]
    refine Calls.spliced_cons ?_
    have go : wpAny (model X.prog X.w) (X.A.mark (some (.ref a))) (spliced (backTo pos (starEach es X.env))) (fun us s' => Q (c :: us) s') E s := ih q
    obtain ⟨hg, hdb, hm | ⟨hm, hv, hn⟩⟩ := hc
    · exact ld_glob (X := X.suite a pn) I hg hm go hdb
    · exact ld_blt (X := X.suite a pn) I hg hm hv go hn hdb
theorem exTest_tup {X : Cx} {es : List Expr} {cs : List Value} {k : Nat} {pos : Pos} (h : NmsOk X es cs) (hl : cs.length ≤ sizeLine) : ExTest X (.Tuple es k pos) cs := fun a pn pins σ H s Q E I q => by
  refine wpAny_Tuple_spliced ?_
  refine nms_run I h ⟨hl, ?_⟩
  have kp : ∀ b o, s.heap.get? b = some o → (s.heap.push { cls := .type "tuple", data := .seq cs.toArray }).get? b = some o := fun b o e => Heap.get?_push_of_some _ e
  exact q _ _ kp fun e cls b LT hx => exm_list (I.kIn.keeps kp) LT ⟨_, Heap.get?_push_size _ rfl, rfl, _, rfl⟩ hx
/-- what the clause wishes of an exception of the body: it is one of these, and the suite goes on with it tracked -/
def wT (K : PySem.W.Frag) (cs : List Value) (i : Nat) (ts : TS) (D : Ends) : WX := fun cls d σ H => PySem.W.exmAny K cls cs = some true ∧ ∀ a, H a = none →
  ts { nx := fun σ' H' => D.nx (σ'.set i none) H', rt := D.rt, bk := fun σ' H' => D.bk (σ'.set i none) H', ct := fun σ' H' => D.ct (σ'.set i none) H' } (σ.set i (some (.ref a))) (upd H a (exT cls d a))
theorem fly_keeps {B : Heap} {l : List Env} {a : Addr} {Z : Obj → Prop} {h h' : Heap} (k : ∀ b o, h.get? b = some o → h'.get? b = some o) (x : HandSPX.FlyingZ B l a Z h) : HandSPX.FlyingZ B l a Z h' := by
  obtain ⟨f1, f2, f3, oe, vs, T, oT, ts, e1, e2, e3, e4, e5, e6, e7, e8⟩ := x
  exact ⟨fun b o q => k b o (f1 b o q), f2, Heap.FunFrames.of_keeps (fun b o e _ => ⟨o, k b o e, rfl⟩) f3, oe, vs, T, oT, ts, k _ _ e1, e2, e3, e4, e5, e6, k _ _ e7, e8⟩
section
variable {X : Cx} {t : Expr} {n : Str} {cs : List Value} {i : Nat} {body suite : List Stmt} {b₀ : Stmt} {pos pos' : Pos} {tb : WX → TS} {ts : TS}
theorem ps_tryT (hs : X.stack = X.env :: X.outer) (hf : X.env.frame = some X.env.locals) (hex : X.ex = []) (hN : X.N.Nodup) (hi : X.N[i]? = some n) (hln : X.env.kindOf n = some .local) (hc : ExTest X t cs)
    (hb : ∀ (W : WX) (pn : List (Addr × Obj)) (xe : Value → Shared → Prop), Takes (X.tr pn xe) W → PassesOwn (model X.prog X.w) X.A X.env xe → PSs (X.tr pn xe) body (tb W))
    (hsu : ∀ (a : Addr) (pn : List (Addr × Obj)), PSs (X.suite a pn) (b₀ :: suite) ts) :
    PS X (.Try body [.ExceptHandler (some t) (some n) (b₀ :: suite) pos'] [] [] pos) (fun D σ H => tb (wT X.K cs i ts D) D σ H) := by
  refine ⟨fun pins s σ H D I h => ?_⟩
  have ok := I.ok
  have hfr : X.A.frames = some (X.env :: X.outer) := by rw [ok.frames, hs]
  have here : Loc X.env.scope n := .inl hln
  refine wpAny_Try_except ?_
  refine wpAny_mono ((hb (wT X.K cs i ts D) (X.pn ++ pins) (fun e s₁ => wpAny (model X.prog X.w) X.A (noteFrame e X.env) (fun _ s₂ => wpAny (model X.prog X.w) X.A (setFlight e none) (fun _ s₃ =>
    wpAny (model X.prog X.w) X.A (handleBy e X.env [.ExceptHandler (some t) (some n) (b₀ :: suite) pos']) (SP X pins D) X.xe s₃) X.xe s₂) X.xe s₁) (fun u s' hx => ?_) PassesOwn.looking).run [] s σ H D (I.toTry _) h) (fun f s1 hsp => ?_) (fun _ _ he => he)
  · obtain ⟨a, B, sI, pins2, σ1, H1, cls, d, rfl, J0, inB, up0, air, na, hos, hag, hany, hgo⟩ := hx
    have J : Inv X pins σ1 H1 sI := J0.ofTry ok
    have air : Sky B (X.env :: X.outer) a (Zc cls d) X.env.locals s'.heap := by rw [← hs]; exact air
    show wpAny (model X.prog X.w) X.A (noteFrame (.ref a) X.env) _ _ _
    refine Sky.land Zc.steady hfr hf air fun h3 fly3 up3 => ?_
    have noB : B.get? a = none := fly3.2.1
    have inI : ∀ b o, sI.heap.get? b = some o → b ∉ frs X.stack → b ≠ a := fun b o q nb w => by
      have z := inB b o q nb
      rw [w, noB] at z
      cases z
    -- the exception stands in no frame
    have apart : ∀ {h : Heap} {o : Obj} {vs : Array Value}, h.FunFrames B (X.env :: X.outer) → h.get? a = some o → o.data = .fields vs → a ∉ frs (X.env :: X.outer) := fun {h o vs} ff e dd hm => by
      obtain ⟨_, o2, e2, hnf⟩ := ff.mem hm
      rw [e] at e2
      cases e2
      exact hnf _ dd
    have J3 : Inv X pins σ1 H1 { s' with heap := h3 } := J.landed inB fly3.1 (up0.trans up3) hos hag
    obtain ⟨oe3, vs3, at3, z3, dat3⟩ := fly3.there
    have noF := apart fly3.2.2.1 at3 dat3
    have nL : a ≠ X.env.locals := fun w => noF (List.mem_filterMap.mpr ⟨X.env, List.mem_cons_self, by rw [hf, w]⟩)
    have nF : a ∉ X.fs := fun hm => by
      obtain ⟨e, he, q⟩ := List.mem_filterMap.mp hm
      exact noF (List.mem_filterMap.mpr ⟨e, List.mem_cons_of_mem _ he, q⟩)
    have newS : ∀ b o, X.s_0.heap.get? b = some o → b ≠ a := fun b o q => by
      obtain ⟨o2, q2⟩ := J.base.there b o q (by rw [hex]; simp)
      by_cases hb : b ∈ frs X.stack
      · intro w
        rw [w, hs] at hb
        exact noF hb
      · exact inI b o2 q2 hb
    have np : ∀ p ∈ X.pn ++ pins, p.1 ≠ a := fun p hp => by
      obtain ⟨e1, e2, e3, e4, _⟩ := J.pin p hp
      refine inI p.1 p.2 e1 fun hm => ?_
      rcases List.mem_cons.mp (J.stkSub _ hm) with w | w
      · exact e3 w
      · exact e4 w
    have S3 := J3.suite at3 dat3 na nL nF
    refine wpAny_handleBy_cons (codeAny_handlers_test ?_) (by intro q; cases q)
    refine hc a _ _ _ _ _ _ _ S3 fun v h4 k4 hm => ?_
    have LT : PySem.W.Looks (model X.prog X.w) h4 (typeOf (.ref a)) cls := fun A Q E s k q => wpAny_typeOf_ref (k _ _ (k4 _ _ at3)) (by rw [z3.1]; exact q)
    refine (hm a cls true LT hany).here ?_
    refine codeAny_handlers_suite_as ?_
    have fly4 := fly_keeps k4 fly3
    refine HandSPX.lands_againZ fly4 fun h5 fly5 up5 => ?_
    have up4 : Heap.UpToSlots h3 h4 := Heap.UpToSlots.of_keeps k4
    have J5 : Inv X pins σ1 H1 { s' with heap := h5 } := J.landed inB fly5.1 (((up0.trans up3).trans up4).trans up5) hos hag
    obtain ⟨oe5, vs5, at5, z5, dat5⟩ := fly5.there
    have J6 : Inv X pins σ1 (upd H1 a (exT cls d a)) { s' with heap := h5 } := x_track J5 na at5 z5 dat5 newS nL np
    have S6 : Inv (X.suite a (X.pn ++ pins)) [] σ1 (upd H1 a (exT cls d a)) { s' with heap := h5 } := ⟨J6.ok.suite _ _, J6.os, J6.bare, J6.base, J6.loc, J6.cell, J6.free, J6.freeC, fun p hp => J6.pin p (by rw [List.append_nil] at hp; exact hp), J6.hok, J6.len⟩
    refine store_ok (X := X.suite a (X.pn ++ pins)) (v := .ref a) S6 hN hi here rfl (fun s7 S7 => ?_) (.inr hln)
    refine wpAny_mono ((hsu a (X.pn ++ pins)).run [] s7 _ _ _ S7 (hgo a na)) (fun f s8 hsp => ?_) (fun _ _ z => False.elim z)
    have out : ∀ {σ8 : L2.St} {H8 : Hp} {Q : Shared → Prop}, Inv (X.suite a (X.pn ++ pins)) [] σ8 H8 s8 → (∀ s9, Inv X pins (σ8.set i none) H8 s9 → Q s9) →
        wpAny (model X.prog X.w) X.A (do bindName X.env n .none; unbindBehindTheSuite X.env n pos') (fun _ s9 => Q s9) X.xe s8 := fun {σ8 H8 Q} S8 hq => by
      have J8 : Inv X pins σ8 H8 s8 := ⟨ok, S8.os, S8.bare, S8.base, S8.loc, S8.cell, S8.free, S8.freeC, fun p hp => S8.pin p (List.mem_append_left _ hp), S8.hok, S8.len⟩
      exact gone_ok J8 hN hi hln hq
    cases f with
    | next =>
      obtain ⟨σ8, H8, S8, q8⟩ := hsp
      exact out S8 fun s9 J9 => ⟨_, _, J9, q8⟩
    | brk =>
      obtain ⟨σ8, H8, S8, q8⟩ := hsp
      exact out S8 fun s9 J9 => ⟨_, _, J9, q8⟩
    | cont =>
      obtain ⟨σ8, H8, S8, q8⟩ := hsp
      exact out S8 fun s9 J9 => ⟨_, _, J9, q8⟩
    | ret u =>
      obtain ⟨v8, σ8, H8, S8, r8, q8⟩ := hsp
      exact out S8 fun s9 J9 => ⟨_, _, _, J9, r8, q8⟩
  · cases f with
    | next =>
      obtain ⟨σ', H', J', q⟩ := hsp
      exact wpAny_execs_nil ⟨σ', H', J'.ofTry ok, q⟩
    | brk =>
      obtain ⟨σ', H', J', q⟩ := hsp
      exact ⟨σ', H', J'.ofTry ok, q⟩
    | cont =>
      obtain ⟨σ', H', J', q⟩ := hsp
      exact ⟨σ', H', J'.ofTry ok, q⟩
    | ret u =>
      obtain ⟨v, σ', H', J', r, q⟩ := hsp
      exact ⟨v, σ', H', J'.ofTry ok, r, q⟩
end
end Dl
end
section
set_option maxHeartbeats 4000000
namespace Dl
open PySem PySem.Spec PyProof.Rows L2
section
variable {X : Cx} {o e : Expr} {es : List Expr} {to te : TE} {ta : TA} {f : Str} {p p' p1 p2 pos : Pos} {B newId initId : String} {bm : List Value} {Bn : Str}
/-- B.__init__(self, ..) -/
def tXi (K : PySem.W.Frag) (newId : String) (bm : List Value) (ta : TA) : TE := fun σ H Q => ta σ H fun vs H1 => ∃ (a C : Addr) (ws : List V), vs = .ref a :: ws ∧ ws.length ≤ 1000 ∧ XC K C newId bm ∧ H1 a = some (exo a C none) ∧ Q .non H1
theorem pe_xinit {pl : Sem Bool} (b : XB B newId initId bm) (hg : Gl X Bn) (hm : X.mg Bn = none) (hv : bootBuiltins Bn = some (.type B)) (hn : Bn ≠ "__name__") (hdb : (Bn == ("__debug__" : Str)) = false) (hst : Manifest.isStub B = false)
    (look : PySem.W.findCls X.K (.type B) (.type "type") "__init__" = some (.val (.builtin initId))) (hh : PySem.W.handedIn (.builtin initId) = true) (ha : PA X (e :: es) ta)
    (hc : eval (.Call (.Attribute (.Name Bn p1) "__init__" p2) (e :: es) [] pos) X.env = (do
      let ov ← eval (.Name Bn p1) X.env
      standAt p2.atName
      let (f, first) ← holding [ov] (getMethod ov "__init__" pl)
      callWith pos f first (backTo pos (starEach (e :: es) X.env)) (backToKw pos (keywordEach [] X.env))) := by rfl)
    (he : starEach (e :: es) X.env = (false, eval e X.env) :: starEach es X.env := by rfl) (hpl : (backTo pos (starEach es X.env)).any (·.1) = false := by rfl) :
    PE X (.Call (.Attribute (.Name Bn p1) "__init__" p2) (e :: es) [] pos) (tXi X.K newId bm ta) := by
  refine ⟨fun pins s σ H Q I h => ?_⟩
  refine PySem.W.methodCall_KW (ld_blt I hg hm hv ?_ hn hdb) hc
  obtain ⟨m, fr⟩ := I.fr
  refine PySem.W.method_type fr I.ok.mod.kin b.ty hst look hh ?_
  show wpAny _ _ (callWith pos (Value.builtin initId) [] (backTo pos (starEach (e :: es) X.env)) []) _ _ _
  refine PyProof.Rows.callWith_method1 (thn (ha.run pos pins _ σ H _ (I.tok _) h) fun us s1 hs => ?_) he hpl
  obtain ⟨vs, H1, I1, r1, a, C, ws, rfl, hl, T, ea, q⟩ := hs
  cases r1 with
  | @cons _ u0 _ ur ra rr =>
    have hu : u0 = Value.ref a := ra
    subst hu
    have hlen : ur.length ≤ sizeLine := by
      rw [← Paired.length rr, sizeLine_eq]
      omega
    exact x_init b T I1 ea hlen fun s' J => ⟨.non, H1, J, rfl, q⟩
/-- self.f = e, self being made -/
def tXs (K : PySem.W.Frag) (newId : String) (bm : List Value) (f : Str) (to te : TE) : TS := fun D σ H => te σ H fun y H1 => to σ H1 fun x H2 => ∃ a C : Addr, x = .ref a ∧ XC K C newId bm ∧ PySem.W.findIn K (.ref C) f = some none ∧
  H2 a = some (exo a C none) ∧ ∀ dx, H2 dx = none → dx ≠ a → D.nx σ (upd (upd H2 dx (exd dx [(f, y)])) a (exo a C (some dx)))
theorem ps_xset (b : XB B newId initId bm) (ho : PE X o to) (he : PE X e te) (hs : swapsWith e (some (.Attribute o f p')) pos.line X.env = pure false := by rfl) : PS X (.Assign [.Attribute o f p'] e pos) (tXs X.K newId bm f to te) := by
  refine ⟨fun pins s σ H D I h => ?_⟩
  refine plainObj_wpAny_Assign_Attribute (thn (he.run pins s σ H _ I h) fun v s1 h1 => ?_) hs
  obtain ⟨y, H1, I1, r1, q1⟩ := h1
  refine thn (ho.run pins s1 σ H1 _ I1 q1) fun u s2 h2 => ?_
  obtain ⟨x, H2, I2, r2, a, C, rfl, T, hno, ea, q⟩ := h2
  have hu : u = Value.ref a := r2
  subst hu
  exact x_set b T I2 ea hno r1 fun dx s' n ne J => ⟨σ, _, J, q dx n ne⟩
/-- C(e, ..), C's own __init__ keeping sp -/
def tXm (C : Addr) (sp : Sp) (ta : TA) : L2.St → Hp → XK → Prop := fun σ H Q => ta σ H fun vs H1 => vs.length ≤ 1000 ∧ ∀ a, H1 a = none → sp (.ref a :: vs) (upd H1 a (exo a C none))
  (fun v H2 => v = .non ∧ ∃ (d : Addr) (fs : List (Str × V)), H2 a = some (exo a C (some d)) ∧ H2 d = some (exd d fs) ∧ Q (.ref C) (some d) (upd (del H2 a) d (.xd fs))) (fun _ _ _ => False)
theorem pmk_x {CX : CXT} {x : Str} {C fI : Addr} {k : Nat} {fd : FuncData} {ps : List Str} {sp : Sp} (b : XB B newId initId bm) (T : XC X.K C newId bm) (iC : PySem.W.findIn X.K (.ref C) "__init__" = some (some (.ref fI))) (tI : PySem.W.typeIn X.K (.ref fI) = some (.type "function"))
    (F1 : FnOk X.prog X.w X.K X.mg X.base CX k fI fd ps sp) (hr : Room (k + 1) X.A) (hb : Binds X.K fd ps []) (hx : Passes CX X (fun _ _ _ => False)) (hg : Gl X x) (hm : X.mg x = some (.ref C)) (ha : PA X (e :: es) ta)
    (hdb : (x == ("__debug__" : Str)) = false := by decide) (he : starEach (e :: es) X.env = (false, eval e X.env) :: starEach es X.env := by rfl) (hpl : (backTo pos (starEach es X.env)).any (·.1) = false := by rfl) :
    PMk X (.Call (.Name x p) (e :: es) [] pos) (tXm C sp ta) := by
  intro pins s σ H Q I h
  obtain ⟨_, _, _, _, _, _, _, _, _, _, _, _, _, _, _, _, _, _, hC⟩ := T.cd
  refine wpAny_Call_Name_kw (ld_glob I hg hm ?_ hdb)
  refine PySem.W.callWith_K (h₀ := X.base) I.ok.mod.kin T.kp (thn (ha.run pos pins s σ H _ I h) fun us s1 hs => ?_) he hpl
  obtain ⟨vs, H1, I1, r1, hz, q1⟩ := hs
  refine ⟨I1.kIn, ?_⟩
  show wpAny _ _ (call (.ref C) us) _ _ _
  obtain ⟨hp, g, dr, tk, os⟩ := s1
  have hsz : hp.objs.size ≤ hp.objs.size + 1 := Nat.le_succ _
  have free : H1 (hp.objs.size + 1) = none := I1.hok.fresh hsz
  have hq := q1 (hp.objs.size + 1) free
  have kk : ∀ b o, hp.get? b = some o → ((hp.push (PySem.W.kdv_tup us)).push (HandSPX.excO C hp.objs.size)).get? b = some o := fun b o e => Heap.get?_push_of_some _ (Heap.get?_push_of_some _ e)
  have there : ((hp.push (PySem.W.kdv_tup us)).push (HandSPX.excO C hp.objs.size)).get? (hp.objs.size + 1) = some (HandSPX.excO C hp.objs.size) := by heap_get
  have I2 := I1.laid (t' := tk) (a := hp.objs.size + 1) (o := exo (hp.objs.size + 1) C none) (h' := (hp.push (PySem.W.kdv_tup us)).push (HandSPX.excO C hp.objs.size)) kk hsz (exo_ok there)
  have r2 : Vals (V.ref (hp.objs.size + 1) :: vs) (Value.ref (hp.objs.size + 1) :: us) := .cons rfl r1
  have hl : (Value.ref (hp.objs.size + 1) :: us ++ []).length = ps.length := by
    have e := r2.length
    rw [F1.len _ _ _ _ hq] at e
    rw [List.append_nil]
    exact e.symm
  have hus : us.length ≤ sizeLine := by
    rw [← Paired.length r1, sizeLine_eq]
    omega
  have bd := hb ⟨(hp.push (PySem.W.kdv_tup us)).push (HandSPX.excO C hp.objs.size), g, dr, tk, os⟩ (Value.ref (hp.objs.size + 1) :: us) I2.kIn hl
  rw [List.append_nil] at bd
  refine wpAny_call (HandSPX.call_own b.ex (fun _ => rfl) (I1.kIn _ _ hC) (PySem.W.looks_findIn I1.kIn iC) (fun self => PySem.W.bind_fn I1.kIn self tI) hus
    (codeAny_mono (F1.run _ X.stack _ _ ⟨Value.ref (hp.objs.size + 1) :: us, []⟩ (Value.ref (hp.objs.size + 1) :: us) _ _ (fun _ _ _ => False) (hr.make C us []) (I2.env0.make C us []) bd r2 hq) fun r s' hq' => ?_))
  cases r with
  | error er => exact hx pins σ _ _ er s' I2 hq'
  | ok fl =>
    cases fl with
    | ret u =>
      obtain ⟨v, H2, os2, bare2, un2, hok2, rv, ev, d, fs, ea, ed, q2⟩ := hq'
      subst ev
      exact ⟨rv, x_end (raises_own T.ex T.ty) I1 hsz kk un2 hok2 os2 bare2 ea ed q2⟩
    | next => exact False.elim hq'
    | brk => exact False.elim hq'
    | cont => exact False.elim hq'
end
end Dl
end
section
set_option maxHeartbeats 4000000
namespace Dl
open PySem PySem.Spec PyProof.Rows L2
/-- a class and what an exception of it holds -/
abbrev XS := Addr × Option (Str × PyData)
def xdP (K : PySem.W.Frag) (f : Str) (d : PyData) : Hp → Hp → V → List Addr → Prop := fun G _ v fp => fp = [] ∧ ∃ dx y, v = .ref dx ∧ G dx = some (.xd [(f, y)]) ∧ Dq K G y d
def exG (K : PySem.W.Frag) (G : Hp) (a C : Addr) : Option (Str × PyData) → Prop
  | none => G a = some (exT (.ref C) none a)
  | some (f, d) => ∃ dx y, G a = some (exT (.ref C) (some dx) a) ∧ G dx = some (.xd [(f, y)]) ∧ Dq K G y d
def exP (K : PySem.W.Frag) (x : XS) : Hp → Hp → V → List Addr → Prop := fun G _ v fp => fp = [] ∧ ∃ a, v = .ref a ∧ exG K G a x.1 x.2
def newP (C a : Addr) : Hp → Hp → V → List Addr → Prop := fun _ H v fp => v = .ref a ∧ fp = [a] ∧ H a = some (exo a C none)
def madeP (K : PySem.W.Frag) (C a : Addr) (f : Str) (d : PyData) : Hp → Hp → V → List Addr → Prop := fun G H v fp => ∃ dx y, v = .ref a ∧ fp = [a, dx] ∧ H a = some (exo a C (some dx)) ∧ H dx = some (exd dx [(f, y)]) ∧ Dq K G y d
theorem exG_mono {K : PySem.W.Frag} {G G' : Hp} {a C : Addr} (s : Same G G') : ∀ {o : Option (Str × PyData)}, exG K G a C o → exG K G' a C o
  | none, h => s _ _ h
  | some (f, d), ⟨dx, y, h1, h2, h3⟩ => ⟨dx, y, s _ _ h1, s _ _ h2, dp_mono s d y h3⟩
theorem xdP_stab {K : PySem.W.Frag} {f : Str} {d : PyData} : Stab (xdP K f d) :=
  ⟨fun ⟨e, dx, y, h1, h2, h3⟩ s _ => ⟨e, dx, y, h1, s _ _ h2, dp_mono s d y h3⟩, fun ⟨e, _⟩ a ha => by rw [e] at ha; simp at ha⟩
theorem exP_stab {K : PySem.W.Frag} {x : XS} : Stab (exP K x) := ⟨fun ⟨e, a, h1, h2⟩ s _ => ⟨e, a, h1, exG_mono s h2⟩, fun ⟨e, _⟩ a ha => by rw [e] at ha; simp at ha⟩
theorem newP_stab {C a : Addr} : Stab (newP C a) := ⟨fun {G G' H H' v fp} ⟨h1, h2, h3⟩ s k => ⟨h1, h2, (k a (by rw [h2]; simp)).trans h3⟩, fun {G H v fp} ⟨h1, h2, h3⟩ b hb => by
  rw [h2] at hb
  simp at hb
  subst hb
  exact ⟨_, h3⟩⟩
theorem madeP_stab {K : PySem.W.Frag} {C a : Addr} {f : Str} {d : PyData} : Stab (madeP K C a f d) := ⟨fun {G G' H H' v fp} ⟨dx, y, h1, h2, h3, h4, h5⟩ s k => ⟨dx, y, h1, h2, (k a (by rw [h2]; simp)).trans h3, (k dx (by rw [h2]; simp)).trans h4, dp_mono s d y h5⟩, fun {G H v fp} ⟨dx, y, h1, h2, h3, h4, h5⟩ b hb => by
  rw [h2] at hb
  simp at hb
  rcases hb with rfl | rfl
  · exact ⟨_, h3⟩
  · exact ⟨_, h4⟩⟩
section
variable {K : PySem.W.Frag} {G0 G H : Hp} {L : Ent} {u v : V} {a C dx : Addr} {f : Str} {d : PyData}
theorem same_both {o : HO} (s : Same G H) (na : G a = none) : Same (upd G a o) (upd H a o) := fun b x k => by
  by_cases q : b = a
  · subst q
    rw [upd_same] at k ⊢
    exact k
  · rw [upd_ne q] at k ⊢
    exact s b x k
theorem apart {os : List O} {vs : List V} {g : List Addr} (h : dnAll K G H os vs g) (na : H a = none) : ∀ b ∈ g, b ≠ a := fun b hb z => by
  obtain ⟨w, q⟩ := dnAll_has _ _ g h b hb
  rw [z, na] at q
  cases q
theorem R.dup {φ : Hp → Hp → V → List Addr → Prop} (r : R K G0 H ((v, .ob φ) :: L)) (h0 : ∀ G H v fp, φ G H v fp → fp = []) : R K G0 H ((v, .ob φ) :: (v, .ob φ) :: L) := by
  obtain ⟨G, f, g, s0, s1, h1, h2, nd, hn⟩ := R.cons_iff.mp r
  have h1' := h1
  unfold dn at h1'
  have e : f = [] := h0 _ _ _ _ h1'.1
  subst e
  refine R.cons_iff.mpr ⟨G, [], [] ++ g, s0, s1, h1, ?_, nd, hn⟩
  simp only [tO, tV, List.cons_append, List.map_cons]
  unfold dnAll
  exact ⟨_, _, [], g, rfl, rfl, h1, h2⟩
theorem R.caught (r : R K G0 H ((.ref dx, .ob (xdP K f d)) :: L)) (na : H a = none) : R K G0 (upd H a (exT (.ref C) (some dx) a)) ((.ref a, .ob (exP K (C, some (f, d)))) :: L) := by
  obtain ⟨G, f0, g, s0, s1, h1, h2, nd, hn⟩ := R.cons_iff.mp r
  unfold dn at h1
  obtain ⟨⟨rfl, dx', y, e1, e2, e3⟩, _⟩ := h1
  cases e1
  have ga : G a = none := s1.free na
  have ap := apart h2 na
  have s2 : Same G (upd G a (exT (.ref C) (some dx) a)) := same_upd ga
  refine R.cons_iff.mpr ⟨_, [], g, s0.trans s2, same_both s1 ga, ?_, dnAll_keep s2 _ _ g h2 fun b hb => upd_ne (ap b hb), nd, fun b hb => ?_⟩
  · unfold dn
    exact ⟨⟨rfl, a, rfl, dx, y, upd_same, s2 _ _ e2, dp_mono s2 d y e3⟩, exP_stab⟩
  · have hb : b ∈ g := hb
    rw [upd_ne (ap b hb)]
    exact hn b hb
theorem R.caught0 (r : R K G0 H L) (na : H a = none) : R K G0 (upd H a (exT (.ref C) none a)) ((.ref a, .ob (exP K (C, none))) :: L) := by
  obtain ⟨G, g, s0, s1, h2, nd, hn⟩ := r
  have ga : G a = none := s1.free na
  have ap := apart h2 na
  have s2 : Same G (upd G a (exT (.ref C) none a)) := same_upd ga
  refine R.cons_iff.mpr ⟨_, [], g, s0.trans s2, same_both s1 ga, ?_, dnAll_keep s2 _ _ g h2 fun b hb => upd_ne (ap b hb), nd, fun b hb => ?_⟩
  · unfold dn
    exact ⟨⟨rfl, a, rfl, upd_same⟩, exP_stab⟩
  · have hb : b ∈ g := hb
    rw [upd_ne (ap b hb)]
    exact hn b hb
theorem R.newX (r : R K G0 H L) (na : H a = none) : R K G0 (upd H a (exo a C none)) ((.ref a, .ob (newP C a)) :: L) := by
  obtain ⟨G, g, s0, s1, h2, nd, hn⟩ := r
  have ga : G a = none := s1.free na
  have ap := apart h2 na
  refine R.cons_iff.mpr ⟨G, [a], g, s0, s1.trans (same_upd na), ?_, dnAll_keep (Same.refl G) _ _ g h2 fun b hb => upd_ne (ap b hb), ?_, fun b hb => ?_⟩
  · unfold dn
    exact ⟨⟨rfl, rfl, upd_same⟩, newP_stab⟩
  · exact List.nodup_cons.mpr ⟨fun z => ap a z rfl, nd⟩
  · rcases List.mem_cons.mp hb with rfl | hb
    · exact ga
    · exact hn b hb
theorem R.setX (r : R K G0 H ((u, .ob (newP C a)) :: (v, .fz d) :: L)) : u = .ref a ∧ H a = some (exo a C none) ∧ ∀ dx f, H dx = none → dx ≠ a → R K G0 (upd (upd H dx (exd dx [(f, v)])) a (exo a C (some dx))) ((u, .ob (madeP K C a f d)) :: L) := by
  obtain ⟨G, f0, g0, s0, s1, h1, h2, nd, hn⟩ := R.cons_iff.mp r
  unfold dn at h1
  obtain ⟨⟨rfl, rfl, ha⟩, _⟩ := h1
  simp only [tO, tV, List.cons_append, List.map_cons] at h2
  unfold dnAll at h2
  obtain ⟨_, _, f1, g, q, rfl, h3, h4⟩ := h2
  cases q
  unfold dn at h3
  obtain ⟨hd, rfl⟩ := h3
  refine ⟨rfl, ha, fun dx f nx ne => ?_⟩
  have ap := apart h4 nx
  have nd' : a ∉ g ∧ g.Nodup := List.nodup_cons.mp nd
  have ga : G a = none := hn a (by simp)
  have gx : G dx = none := s1.free nx
  have els : ∀ b, b ≠ a → b ≠ dx → upd (upd H dx (exd dx [(f, v)])) a (exo a C (some dx)) b = H b := fun b h1 h2 => by rw [upd_ne h1, upd_ne h2]
  refine R.cons_iff.mpr ⟨G, [a, dx], g, s0, fun b x k => ?_, ?_, dnAll_keep (Same.refl G) _ _ g h4 fun b hb => els b (fun z => nd'.1 (z ▸ hb)) (ap b hb), ?_, fun b hb => ?_⟩
  · rw [els b (fun z => by rw [z, ga] at k; cases k) (fun z => by rw [z, gx] at k; cases k)]
    exact s1 b x k
  · unfold dn
    exact ⟨⟨dx, v, rfl, rfl, upd_same, by rw [upd_ne ne]; exact upd_same, hd⟩, madeP_stab⟩
  · refine List.nodup_cons.mpr ⟨fun z => ?_, List.nodup_cons.mpr ⟨fun z => ap dx z rfl, nd'.2⟩⟩
    rcases List.mem_cons.mp z with z | z
    · exact ne z.symm
    · exact nd'.1 z
  · rcases List.mem_cons.mp hb with rfl | hb
    · exact ga
    · rcases List.mem_cons.mp hb with rfl | hb
      · exact gx
      · have hb : b ∈ g := hb
        exact hn b (by simp [hb])
theorem R.letgo (r : R K G0 H ((.ref a, .ob (madeP K C a f d)) :: L)) : ∃ dx y, H a = some (exo a C (some dx)) ∧ H dx = some (exd dx [(f, y)]) ∧ R K G0 (upd (del H a) dx (.xd [(f, y)])) ((.ref dx, .ob (xdP K f d)) :: L) := by
  obtain ⟨G, f0, g, s0, s1, h1, h2, nd, hn⟩ := R.cons_iff.mp r
  unfold dn at h1
  obtain ⟨⟨dx, y, _, rfl, ha, hx, hd⟩, _⟩ := h1
  have n1 := List.nodup_cons.mp nd
  have n2 := List.nodup_cons.mp n1.2
  have ga : G a = none := hn a (by simp)
  have gx : G dx = none := hn dx (by simp)
  have oa : ∀ b ∈ g, b ≠ a := fun b hb z => n1.1 (by rw [← z]; exact List.mem_cons_of_mem _ hb)
  have ox : ∀ b ∈ g, b ≠ dx := fun b hb z => n2.1 (z ▸ hb)
  have els : ∀ b, b ≠ a → b ≠ dx → upd (del H a) dx (.xd [(f, y)]) b = H b := fun b h1 h2 => by rw [upd_ne h2, del_ne h1]
  have s2 : Same G (upd G dx (.xd [(f, y)])) := same_upd gx
  refine ⟨dx, y, ha, hx, R.cons_iff.mpr ⟨upd G dx (.xd [(f, y)]), [], g, s0.trans s2, fun b x k => ?_, ?_, dnAll_keep s2 _ _ g h2 fun b hb => els b (oa b hb) (ox b hb), n2.2, fun b hb => ?_⟩⟩
  · by_cases q : b = dx
    · subst q
      rw [upd_same] at k ⊢
      exact k
    · rw [upd_ne q] at k
      rw [els b (fun z => by rw [z, ga] at k; cases k) q]
      exact s1 b x k
  · unfold dn
    exact ⟨⟨rfl, dx, y, rfl, upd_same, dp_mono s2 d y hd⟩, xdP_stab⟩
  · have hb : b ∈ g := hb
    rw [upd_ne (ox b hb)]
    exact hn b (by simp [hb])
end
def XR (K : PySem.W.Frag) (G0 H : Hp) (F : Ent) (o : Option (Str × PyData)) (d : Option Addr) : Prop := match o with
  | none => d = none ∧ R K G0 H F
  | some (f, p) => ∃ dx, d = some dx ∧ R K G0 H ((.ref dx, .ob (xdP K f p)) :: F)
def XRel (K : PySem.W.Frag) (G0 : Hp) (F : Ent) (σ : Sl) (H : Hp) (Γ : Gm) (o : Option (Str × PyData)) (d : Option Addr) : Prop := match o with
  | none => d = none ∧ Rel K G0 [] F σ H Γ
  | some (f, p) => ∃ dx, d = some dx ∧ Rel K G0 [(.ref dx, .ob (xdP K f p))] F σ H Γ
def spX (K : PySem.W.Frag) (n : Nat) (φ : List PyData → (O → Prop) → (XS → Prop) → Prop) : Sp := fun vs H Q E => ∃ G0 ds F Kt Ke, vs.length = ds.length ∧ ds.length = n ∧ R K G0 H (fzs vs ds ++ F) ∧ φ ds Kt Ke ∧
  (∀ o v H', Kt o → (∀ i, o ≠ .al i) → R K G0 H' ((v, o) :: F) → Q v H') ∧ ∀ x d H', Ke x → XR K G0 H' F x.2 d → E (.ref x.1) d H'
structure DEX extends DEnds where
  ex : XS → Gm → Prop
abbrev TSx := DEX → Gm → Prop
def liftSX (K : PySem.W.Frag) (W : WX) (τ : TSx) : TS := fun D σ H => ∃ G0 Γ F E, Rel K G0 [] F σ H Γ ∧ τ E Γ ∧ Leads K G0 F E.toDEnds D ∧ ∀ x d Γ' σ' H', E.ex x Γ' → XRel K G0 F σ' H' Γ' x.2 d → W (.ref x.1) d σ' H'
abbrev DSX (X : Cx) (W : WX) (st : Stmt) (τ : TSx) : Prop := PS X st (liftSX X.K W τ)
abbrev DSXs (X : Cx) (W : WX) (st : List Stmt) (τ : TSx) : Prop := PSs X st (liftSX X.K W τ)
/-- an expression that may raise -/
abbrev TEx := Gm → (O → Gm → Prop) → (XS → Gm → Prop) → Prop
def liftEX (K : PySem.W.Frag) (W : WX) (τ : TEx) : TE := fun σ H Q => ∃ G0 Γ T F Kt Ke, Rel K G0 T F σ H Γ ∧ τ Γ Kt Ke ∧ (∀ o Γ' v H', Kt o Γ' → Rel K G0 ((v, o) :: T) F σ H' Γ' → Q v H') ∧ ∀ x d Γ' H', Ke x Γ' → XRel K G0 F σ H' Γ' x.2 d → W (.ref x.1) d σ H'
abbrev DEXe (X : Cx) (W : WX) (e : Expr) (τ : TEx) : Prop := PE X e (liftEX X.K W τ)
theorem xr_rel {K : PySem.W.Frag} {G0 H H0 : Hp} {T T0 F : Ent} {σ : Sl} {Γ : Gm} {d : Option Addr} (r : Rel K G0 T0 F σ H0 Γ) : ∀ {o : Option (Str × PyData)}, XR K G0 H (T ++ (ents σ Γ ++ F)) o d → XRel K G0 F σ H Γ o d
  | none, ⟨h1, h2⟩ => ⟨h1, r.fit, fun _ _ m => by simp at m, R.dropL (M := T) h2⟩
  | some (f, p), ⟨dx, h1, h2⟩ => ⟨dx, h1, r.fit, AlOk.cons (fun _ _ m => by simp at m) (fun _ z => nomatch z), R.dropL (M := T) (h2.perm (by
      show (_ :: (T ++ (ents σ Γ ++ F))).Perm (T ++ (_ :: (ents σ Γ ++ F)))
      exact List.perm_middle.symm))⟩
section
variable {P : Program} {w : World} {K : PySem.W.Frag} {mg : Str → Option Value} {base : Heap}
theorem fnX {x qual : Str} {st : Stmt} {f : Addr} {fd : FuncData} {N ps : List Str} {k n : Nat} {φ : List PyData → (O → Prop) → (XS → Prop) → Prop} (F : Fun K x qual st f fd) (S : FnScope N ps (defScope st)) (hn : ps.length = n)
    (hbody : ∀ (cdv : Value) (A : Around) (outer : List Env) (s : Shared) (H : Hp) (E : XK), Room k (A.deeper (envOfC qual (defScope st) s.heap.objs.size f cdv)) →
      ∃ τ, DSXs (cxOf (L2.CX P w) P w K mg base N qual (defScope st) f cdv A outer s H E) (fun cls d _ H' => E cls d H') (defBody st) τ ∧ ∀ ds Kt Ke, ds.length = n → φ ds Kt Ke → τ { nx := fun _ => Kt (.fz .none), rt := fun o _ => Kt o, ex := fun x _ => Ke x } (startG N (ds.map .fz))) :
    FnOk P w K mg base (L2.CX P w) (k + 1) f fd ps (spX K n φ) := by
  refine F.okX S (fun vs H Q E h => ?_) (fun cdv A outer s H vs Q E hr h => ?_)
  · obtain ⟨G0, ds, F, Kt, Ke, h1, h2, _⟩ := h
    rw [h1, h2, hn]
  · obtain ⟨τ, hτ, hq⟩ := hbody cdv A outer s H E hr
    obtain ⟨G0, ds, F, Kt, Ke, h1, h2, r, hφ, q, qe⟩ := h
    refine ⟨_, hτ, ?_⟩
    obtain ⟨e1, e2⟩ := ents_start (n := N.length - vs.length) (vs := vs) (os := ds.map .fz) (by rw [List.length_map, h1])
    have e3 : startG N (ds.map .fz) = (ds.map O.fz).map some ++ List.replicate (N.length - vs.length) none := by
      unfold startG
      rw [List.length_map, h1]
    refine ⟨G0, startG N (ds.map .fz), F, _, ⟨?_, fun _ _ m => by simp at m, ?_⟩, hq ds Kt Ke h2 hφ, ⟨fun Γ σ H' k1 r1 => ?_, fun o Γ v σ H' n1 k1 r1 => ?_, fun _ _ _ z => z.elim, fun _ _ _ z => z.elim⟩, fun x d Γ' σ' H' k1 r1 => ?_⟩
    · rw [e3]
      exact e2
    · rw [e3]
      show R K G0 H (ents (vs.map some ++ List.replicate (N.length - vs.length) none) _ ++ F)
      rw [e1, ← fzs_zip]
      exact r
    · have r2 : R K G0 H' (ents σ Γ ++ F) := r1.r
      exact q (.fz .none) .non H' k1 (fun _ z => nomatch z) (r2.dropL.add fun _ => .non)
    · have r2 : R K G0 H' ((v, o) :: (ents σ Γ ++ F)) := r1.r
      refine q o v H' k1 n1 (R.dropL (M := ents σ Γ) (r2.perm ?_))
      exact List.perm_middle.symm
    · refine qe x d H' k1 ?_
      obtain ⟨C, o⟩ := x
      cases o with
      | none =>
        obtain ⟨h1, h2⟩ := r1
        exact ⟨h1, R.dropL (M := ents σ' Γ') h2.r⟩
      | some p =>
        obtain ⟨fl, p⟩ := p
        obtain ⟨dx, h1, h2⟩ := r1
        have r2 : R K G0 H' ((.ref dx, .ob (xdP K fl p)) :: (ents σ' Γ' ++ F)) := h2.r
        exact ⟨dx, h1, R.dropL (M := ents σ' Γ') (r2.perm List.perm_middle.symm)⟩
end
end Dl
end
section
set_option maxHeartbeats 4000000
namespace Dl
open PySem PySem.Spec PyProof.Rows L2
theorem ps_nox {X : Cx} {st : Stmt} {t : TS} (h : PS X.nox st t) : PS X st t := ⟨fun pins s σ H D I hw => wpAny_mono (h.run pins s σ H D (I.wish _) hw) (fun _ _ q => q.unwish) fun _ _ z => z.elim⟩
theorem pa_nox {X : Cx} {es : List Expr} {t : TA} (h : PA X.nox es t) : PA X es t := ⟨fun pos pins s σ H Q I hw =>
  wpAny_mono (h.run pos pins s σ H Q (I.wish _) hw) (fun _ _ ⟨v, H', I', r, q⟩ => ⟨v, H', I'.unwish, r, q⟩) fun _ _ z => z.elim⟩
section
variable {X : Cx} {W : WX} {st : Stmt} {rest : List Stmt} {t u : TSx} {t0 : TSd} {τ : TEx} {τd : TEd} {τt : TTd} {τs : TAd} {pos : Pos} {e : Expr} {es : List Expr}
def xS (t : TSd) : TSx := fun E Γ => t E.toDEnds Γ
theorem dx_of (h : DS X.nox st t0) : DSX X W st (xS t0) := psI (ps_nox h) fun D σ H ⟨G0, Γ, F, E, R1, k, q, _⟩ => ⟨G0, Γ, F, E.toDEnds, R1, k, q⟩
def xSeq (t u : TSx) : TSx := fun E Γ => t { E with nx := u E } Γ
theorem dx_cons (h1 : DSX X W st t) (h2 : DSXs X W rest u) : DSXs X W (st :: rest) (xSeq t u) := pssI (pss_cons h1 h2) fun D σ H ⟨G0, Γ, F, E, R1, k, q, qx⟩ =>
  ⟨G0, Γ, F, { E with nx := u E }, R1, k, ⟨fun Γ1 σ1 H1 k1 R2 => ⟨G0, Γ1, F, E, R2, k1, q, qx⟩, q.rt, q.bk, q.ct⟩, qx⟩
theorem dx_single (h1 : DSX X W st t) : DSXs X W [st] t := pss_one h1
def xIf (c : TTd) (t u : TSx) : TSx := fun E Γ => c Γ fun b Γ1 => (b = true → t E Γ1) ∧ (b = false → u E Γ1)
theorem dx_if {c : Expr} {a b : List Stmt} (hc : DT X.nox c τt) (ha : DSXs X W a t) (hb : DSXs X W b u) : DSX X W (.If c a b pos) (xIf τt t u) := psI (ps_if (PT.nox hc) ha hb) fun D σ H ⟨G0, Γ, F, E, R1, k, q, qx⟩ =>
  ⟨G0, Γ, [], F, _, R1, k, fun c Γ1 H1 k1 R2 => by
    cases c with
    | true => rw [if_pos rfl]; exact ⟨G0, Γ1, F, E, R2, k1.1 rfl, q, qx⟩
    | false => rw [if_neg (by decide)]; exact ⟨G0, Γ1, F, E, R2, k1.2 rfl, q, qx⟩⟩
/-- statements of one such expression -/
def xSet (i : Nat) (τ : TEx) : TSx := fun E Γ => τ Γ (fun o Γ1 => fix1 Γ1 o fun o1 Γ2 => E.nx (put Γ2 i (some o1))) E.ex
theorem dx_set (i : Nat) {x : Str} {pos' : Pos} (hN : X.N.Nodup) (he : DEXe X W e τ) (hi : X.N[i]? = some x := by rfl) (hx : Loc X.env.scope x := by first | exact Or.inl rfl | exact Or.inr rfl) (hs : swapsWith e (some (.Name x pos')) pos.line X.env = pure false := by rfl) (hf : X.fn x = true ∨ X.env.scope.names.lookup x = some .local := by first | exact .inl rfl | exact .inr rfl) :
    DSX X W (.Assign [.Name x pos'] e pos) (xSet i τ) := psI (ps_set (i := i) hN hi hx he hs hf) fun D σ H ⟨G0, Γ, F, E, R1, k, q, qx⟩ =>
  ⟨G0, Γ, [], F, _, _, R1, k, fun o Γ1 v H1 k1 R2 => by
    obtain ⟨o', Γ', h1, n1, R3⟩ := R2.fixed k1
    exact q.nx _ _ H1 h1 R3.toF'.store, fun x d Γ' H' k1 r => qx x d Γ' σ H' k1 r⟩
def xExpr (τ : TEx) : TSx := fun E Γ => τ Γ (fun _ Γ1 => E.nx Γ1) E.ex
theorem dx_expr (he : DEXe X W e τ) (hs : swapsWith e none pos.line X.env = pure false := by rfl) : DSX X W (.Expr e pos) (xExpr τ) := psI (ps_expr he hs) fun D σ H ⟨G0, Γ, F, E, R1, k, q, qx⟩ =>
  ⟨G0, Γ, [], F, _, _, R1, k, fun o Γ1 v H1 k1 R2 => q.nx Γ1 σ H1 k1 R2.drop, fun x d Γ' H' k1 r => qx x d Γ' σ H' k1 r⟩
def xRet (τ : TEx) : TSx := fun E Γ => τ Γ (fun o Γ1 => mov Γ1 o E.rt) E.ex
theorem dx_ret (he : DEXe X W e τ) : DSX X W (.Return (some e) pos) (xRet τ) := psI (ps_ret he) fun D σ H ⟨G0, Γ, F, E, R1, k, q, qx⟩ =>
  ⟨G0, Γ, [], F, _, _, R1, k, fun o Γ1 v H1 k1 R2 => by
    obtain ⟨o', Γ', h1, n1, R3⟩ := R2.moved k1
    exact q.rt o' Γ' v σ H1 n1 h1 R3, fun x d Γ' H' k1 r => qx x d Γ' σ H' k1 r⟩
/-- calls -/
def CanX (P : Program) (w : World) (K : PySem.W.Frag) (mg : Str → Option Value) (base : Heap) (k : Nat) (x : Str) (ps : List Str) (sp : Sp) : Prop :=
  ∃ f fd, mg x = some (.ref f) ∧ PySem.W.keepIn K (.ref f) = true ∧ Binds K fd ps [] ∧ FnOk P w K mg base (L2.CX P w) k f fd ps sp
def CanXW (P : Program) (w : World) (K : PySem.W.Frag) (mg : Str → Option Value) (base : Heap) (k : Nat) (x : Str) (ps ks : List Str) (ix : List Nat) (sp : Sp) : Prop :=
  ∃ f fd, mg x = some (.ref f) ∧ PySem.W.keepIn K (.ref f) = true ∧ Binds K fd ps [] ∧ KwB K fd ps ks ix ∧ FnOk P w K mg base (L2.CX P w) k f fd ps sp
variable {P : Program} {w : World} {K : PySem.W.Frag} {mg : Str → Option Value} {base : Heap} {x : Str} {ps ks : List Str} {n j k : Nat} {ix : List Nat} {φ : List PyData → (O → Prop) → (XS → Prop) → Prop} {p : Pos} {kws : List Keyword} {f : Addr} {fd : FuncData}
theorem CanXW.can {sp : Sp} (c : CanXW P w K mg base k x ps ks ix sp) : CanX P w K mg base k x ps sp := by
  obtain ⟨f, fd, h1, h2, h3, _, h4⟩ := c
  exact ⟨f, fd, h1, h2, h3, h4⟩
theorem CanX.mono {sp : Sp} (c : CanX P w K mg base k x ps sp) (h : k ≤ j) : CanX P w K mg base j x ps sp := by
  obtain ⟨f, fd, h1, h2, h3, h4⟩ := c
  exact ⟨f, fd, h1, h2, h3, h4.mono h⟩
theorem At.canXW {st : Stmt} {N : List Str} (A : At K mg x st ps) (ks : List Str) (ix : List Nat)
    (hk : ∀ (kV doc pm : Value) (an : Option Addr) (cdv ct : Value) (ws : List Value), ws.length = ks.length → bindArgs (PySem.W.fnOf x x (defArgs st) (defBody st) (defScope st) .none kV doc pm an cdv ct) ⟨[], ks.zip ws⟩ = pure (ps.zip (ix.map fun i => ws.getD i .none)))
    (S : FnScope N ps (defScope st)) (hn : ps.length = n)
    (hbody : ∀ (f : Addr) (cdv : Value) (A : Around) (outer : List Env) (s : Shared) (H : Hp) (E : XK), Room k (A.deeper (envOfC x (defScope st) s.heap.objs.size f cdv)) →
      ∃ τ, DSXs (cxOf (L2.CX P w) P w K mg base N x (defScope st) f cdv A outer s H E) (fun cls d _ H' => E cls d H') (defBody st) τ ∧ ∀ ds Kt Ke, ds.length = n → φ ds Kt Ke → τ { nx := fun _ => Kt (.fz .none), rt := fun o _ => Kt o, ex := fun x _ => Ke x } (startG N (ds.map .fz))) : CanXW P w K mg base (k + 1) x ps ks ix (spX K n φ) := by
  obtain ⟨f, fd, h1, h2, h3⟩ := A
  exact ⟨f, fd, h2, h1.kp, h3, Fun.kwb h1 hk, fnX h1 S hn fun cdv A outer s H E hr => hbody f cdv A outer s H E hr⟩
theorem At.canX {st : Stmt} {N : List Str} (A : At K mg x st ps)
    (S : FnScope N ps (defScope st)) (hn : ps.length = n)
    (hbody : ∀ (f : Addr) (cdv : Value) (A : Around) (outer : List Env) (s : Shared) (H : Hp) (E : XK), Room k (A.deeper (envOfC x (defScope st) s.heap.objs.size f cdv)) →
      ∃ τ, DSXs (cxOf (L2.CX P w) P w K mg base N x (defScope st) f cdv A outer s H E) (fun cls d _ H' => E cls d H') (defBody st) τ ∧ ∀ ds Kt Ke, ds.length = n → φ ds Kt Ke → τ { nx := fun _ => Kt (.fz .none), rt := fun o _ => Kt o, ex := fun x _ => Ke x } (startG N (ds.map .fz))) : CanX P w K mg base (k + 1) x ps (spX K n φ) := by
  obtain ⟨f, fd, h1, h2, h3⟩ := A
  exact ⟨f, fd, h2, h1.kp, h3, fnX h1 S hn fun cdv A outer s H E hr => hbody f cdv A outer s H E hr⟩
def xCall (n : Nat) (φ : List PyData → (O → Prop) → (XS → Prop) → Prop) (t : TAd) : TEx := fun Γ Kt Ke => t Γ fun os Γ1 => escs Γ1 os fun ds Γ2 => ds.length = n ∧ φ ds (fun o => Kt o Γ2) (fun x => Ke x Γ2)
theorem useX {G0 : Hp} {Γ : Gm} {T F : Ent} {σ : Sl} {H : Hp} {vs : List V} {os : List O} {Kt : O → Gm → Prop} {Ke : XS → Gm → Prop} {Q : VK} {E : XK} (hl : vs.length = os.length) (R2 : Rel X.K G0 (vs.zip os ++ T) F σ H Γ)
    (k1 : escs Γ os fun ds Γ2 => ds.length = n ∧ φ ds (fun o => Kt o Γ2) (fun x => Ke x Γ2))
    (q : ∀ o Γ' v H', Kt o Γ' → Rel X.K G0 ((v, o) :: T) F σ H' Γ' → Q v H') (qe : ∀ x d Γ' H', Ke x Γ' → XRel X.K G0 F σ H' Γ' x.2 d → E (.ref x.1) d H') : spX X.K n φ vs H Q E := by
  obtain ⟨ds, Γ2, ⟨h1, h2⟩, hl2, R3⟩ := Rel.escapes hl R2 k1
  refine ⟨G0, ds, T ++ (ents σ Γ2 ++ F), _, _, hl2, h1, ?_, h2, fun o v H' k2 n1 r => q o Γ2 v H' k2 ⟨R3.fit, ?_, r⟩, fun x d H' k2 r => qe x d Γ2 H' k2 (xr_rel R3 r)⟩
  · have r := R3.r
    rw [List.append_assoc] at r
    exact r
  · refine AlOk.cons ?_ n1
    exact R2.al |> fun h => fun w j m => h w j (List.mem_append_right _ m)
theorem dxe_call (C : CanX X.prog X.w X.K X.mg X.base j x ps (spX X.K n φ)) (tk : Takes X W) (hr : Room k X.A) (ha : DA X.nox (e :: es) τs) (hj : j ≤ k := by decide) (hg : Gl X x := by rfl)
    (hdb : (x == ("__debug__" : Str)) = false := by decide) (he : starEach (e :: es) X.env = (false, eval e X.env) :: starEach es X.env := by rfl) (hpl : (backTo pos (starEach es X.env)).any (·.1) = false := by rfl) :
    DEXe X W (.Call (.Name x p) (e :: es) [] pos) (xCall n φ τs) := by
  obtain ⟨f, fd, h1, h2, h3, h4⟩ := C
  exact peI (pe_callS (E := WE W) h4 (hr.mono hj) hg h1 h2 h3 (fun σ => passAt tk σ) (pa_nox ha) hdb he hpl) fun σ H Q ⟨G0, Γ, T, F, Kt, Ke, R1, k, q, qe⟩ => ⟨G0, Γ, T, F, _, R1, k, fun os Γ1 vs H1 k1 hl R2 => useX hl R2 k1 q qe⟩
/-- .. where it raises nothing -/
def xCall0 (n : Nat) (φ : List PyData → (O → Prop) → (XS → Prop) → Prop) (t : TAd) : TEd := fun Γ Kt => t Γ fun os Γ1 => escs Γ1 os fun ds Γ2 => ds.length = n ∧ φ ds (fun o => Kt o Γ2) (fun _ => False)
theorem de_canX (C : CanX X.prog X.w X.K X.mg X.base j x ps (spX X.K n φ)) (hr : Room k X.A) (ha : DA X (e :: es) τs) (hj : j ≤ k := by decide) (hg : Gl X x := by rfl)
    (hdb : (x == ("__debug__" : Str)) = false := by decide) (he : starEach (e :: es) X.env = (false, eval e X.env) :: starEach es X.env := by rfl) (hpl : (backTo pos (starEach es X.env)).any (·.1) = false := by rfl) :
    DE X (.Call (.Name x p) (e :: es) [] pos) (xCall0 n φ τs) := by
  obtain ⟨f, fd, h1, h2, h3, h4⟩ := C
  exact peI (pe_call h4 (hr.mono hj) hg h1 h2 h3 .nil passL ha hdb he hpl) fun σ H Q ⟨G0, Γ, T, F, Kt, R1, k, q⟩ => ⟨G0, Γ, T, F, _, R1, k, fun os Γ1 vs H1 k1 hl R2 => by
    show spX X.K n φ (vs ++ []) H1 Q E0
    rw [List.append_nil]
    exact useX (Ke := fun _ _ => False) hl R2 k1 q fun _ _ _ _ z => z.elim⟩
def tCallKS (ks : List Str) (sp : Sp) (gV : List V → List V) (E : L2.St → XK) (tk : TA) : TE := fun σ H Q => tk σ H fun zs H2 => zs.length = ks.length ∧ sp (gV zs) H2 Q (E σ)
theorem pe_callKS {sp : Sp} {E : L2.St → XK} {tk : TA} {CX : CXT} (F : FnOk X.prog X.w X.K X.mg X.base CX k f fd ps sp) (hr : Room k X.A) (hg : Gl X x) (hm : X.mg x = some (.ref f)) (hk : PySem.W.keepIn X.K (.ref f) = true) (hb : KwB X.K fd ps ks ix) (hx : ∀ σ, PassesAt CX X σ (E σ))
    (hkw : PK X kws tk) (hall : (backToKw pos (keywordEach kws X.env)).all (·.1.isSome) = true := by rfl) (hks : (backToKw pos (keywordEach kws X.env)).filterMap (·.1) = ks := by rfl)
    (hdb : (x == ("__debug__" : Str)) = false := by decide)
    (hpl : ((backTo pos (starEach [] X.env)).any (·.1) || (backToKw pos (keywordEach kws X.env)).any (·.1.isNone)) = false := by rfl) :
    PE X (.Call (.Name x p) [] kws pos) (tCallKS ks sp (fun vs => ix.map fun i => vs.getD i .non) E tk) := by
  refine ⟨fun pins s σ H Q I h => ?_⟩
  refine wpAny_Call_Name_kw (ld_glob I hg hm ?_ hdb)
  refine PySem.W.callWith_KW0 (h₀ := X.base) I.ok.mod.kin hk hall ?_ hpl
  refine thn (hkw.run pos pins s σ H _ I h) fun ws s2 ⟨zs, H2, I2, rz, hz, q2⟩ => ⟨I2.kIn, ?_⟩
  rw [hks]
  have r2 := vals_pick rz ix
  refine wpAny_call (codeAny_mono (F.run X.A X.stack s2 H2 ⟨[], ks.zip ws⟩ (ix.map fun i => ws.getD i .none) _ Q (E σ) hr I2.env0 (hb s2 ws I2.kIn (rz.length.symm.trans hz)) r2 q2) fun r s' hq => ?_)
  cases r with
  | error e => exact hx σ pins H2 s2 e s' I2 hq
  | ok fl =>
    cases fl with
    | ret u => exact I2.after hq
    | next => exact False.elim hq
    | brk => exact False.elim hq
    | cont => exact False.elim hq
theorem useXK {G0 : Hp} {Γ : Gm} {T F : Ent} {σ : Sl} {H : Hp} {vs : List V} {os : List O} {Kt : O → Gm → Prop} {Ke : XS → Gm → Prop} {Q : VK} {E : XK} (hl : vs.length = os.length) (R2 : Rel X.K G0 (vs.zip os ++ T) F σ H Γ)
    (k1 : escs Γ os fun ds Γ2 => ix.length = n ∧ φ (pick ix ds) (fun o => Kt o Γ2) (fun x => Ke x Γ2))
    (q : ∀ o Γ' v H', Kt o Γ' → Rel X.K G0 ((v, o) :: T) F σ H' Γ' → Q v H') (qe : ∀ x d Γ' H', Ke x Γ' → XRel X.K G0 F σ H' Γ' x.2 d → E (.ref x.1) d H') : spX X.K n φ (ix.map fun i => vs.getD i .non) H Q E := by
  obtain ⟨ds, Γ2, ⟨h1, h2⟩, hl2, R3⟩ := Rel.escapes hl R2 k1
  have r := R3.r
  rw [List.append_assoc] at r
  obtain ⟨G, g, s0, s1, a, b, nd, hn⟩ := (R.fzs_iff hl2).mp r
  have h3 := dqAll_pick a ix
  refine ⟨G0, pick ix ds, T ++ (ents σ Γ2 ++ F), _, _, dpAll_len h3, by unfold pick; rw [List.length_map, h1], (R.fzs_iff (dpAll_len h3)).mpr ⟨G, g, s0, s1, h3, b, nd, hn⟩, h2, fun o v H' k2 n1 r => q o Γ2 v H' k2 ⟨R3.fit, ?_, r⟩, fun x d H' k2 r => qe x d Γ2 H' k2 (xr_rel R3 r)⟩
  refine AlOk.cons ?_ n1
  exact R2.al |> fun h => fun w j m => h w j (List.mem_append_right _ m)
def xKw0 (n m : Nat) (ix : List Nat) (φ : List PyData → (O → Prop) → (XS → Prop) → Prop) (t : TAd) : TEd := fun Γ Kt => t Γ fun os Γ1 => os.length = m ∧ escs Γ1 os fun ds Γ2 => ix.length = n ∧ φ (pick ix ds) (fun o => Kt o Γ2) (fun _ => False)
theorem de_kwX (C : CanXW X.prog X.w X.K X.mg X.base j x ps ks ix (spX X.K n φ)) (hr : Room k X.A) (ha : DK X kws τs) (hj : j ≤ k := by decide) (hg : Gl X x := by rfl)
    (hall : (backToKw pos (keywordEach kws X.env)).all (·.1.isSome) = true := by rfl) (hks : (backToKw pos (keywordEach kws X.env)).filterMap (·.1) = ks := by rfl)
    (hdb : (x == ("__debug__" : Str)) = false := by decide)
    (hpl : ((backTo pos (starEach [] X.env)).any (·.1) || (backToKw pos (keywordEach kws X.env)).any (·.1.isNone)) = false := by rfl) :
    DE X (.Call (.Name x p) [] kws pos) (xKw0 n ks.length ix φ τs) := by
  obtain ⟨f, fd, h1, h2, h3, hb, h4⟩ := C
  refine peI (pe_callKS (E := fun _ => E0) h4 (hr.mono hj) hg h1 h2 hb (fun σ pins H s e s' I c => passL pins σ H s e s' I c) ha hall hks hdb hpl) fun σ H Q ⟨G0, Γ, T, F, Kt, R1, k, q⟩ => ⟨G0, Γ, T, F, _, R1, k, fun os Γ1 vs H1 ⟨k0, k1⟩ hl R2 => ⟨hl.trans k0, ?_⟩⟩
  exact useXK (Ke := fun _ _ => False) hl R2 k1 q fun _ _ _ _ z => z.elim
end
end Dl
end
section
set_option maxHeartbeats 4000000
namespace Dl
open PySem PySem.Spec PyProof.Rows L2
section
variable {K : PySem.W.Frag} {G0 H H' : Hp} {T F : Ent} {σ : Sl} {Γ : Gm} {v : V} {o : O} {i : Nat}
theorem Rel.slotOb {φ : Hp → Hp → V → List Addr → Prop} (r : Rel K G0 ((v, .al i) :: T) F σ H Γ) (g : get Γ i = some (.ob φ)) : ∃ G fp, Same G H ∧ φ G H v fp ∧ (fp = [] → Same G0 G) := by
  obtain ⟨w, h1, h2, h3⟩ := r.drop.out g
  have e := r.al v i List.mem_cons_self
  rw [h1] at e
  cases e
  obtain ⟨G, f, g', s0, s1, h4, _⟩ := R.cons_iff.mp h2
  unfold dn at h4
  exact ⟨G, f, s1, h4.1, fun _ => s0⟩
theorem unset : ∀ {σ : Sl} {Γ : Gm} {i : Nat}, Fit σ Γ → ents (σ.set i none) (put Γ i none) = ents σ (put Γ i none) ∧ Fit (σ.set i none) (put Γ i none)
  | [], [], _, _ => ⟨rfl, trivial⟩
  | none :: σ, none :: Γ, 0, f => ⟨rfl, f⟩
  | some w :: σ, none :: Γ, 0, f => ⟨rfl, f⟩
  | some w :: σ, some u :: Γ, 0, f => ⟨rfl, f⟩
  | none :: σ, none :: Γ, i + 1, f => unset (σ := σ) (Γ := Γ) (i := i) f
  | some w :: σ, none :: Γ, i + 1, f => unset (σ := σ) (Γ := Γ) (i := i) f
  | some w :: σ, some u :: Γ, i + 1, f => by
    obtain ⟨h1, h2⟩ := unset (σ := σ) (Γ := Γ) (i := i) f
    exact ⟨congrArg ((w, u) :: ·) h1, h2⟩
  | none :: _, some _ :: _, _, f => f.elim
  | [], _ :: _, _, f => f.elim
  | none :: _, [], _, f => f.elim
  | some _ :: _, [], _, f => f.elim
theorem Rel.unset (i : Nat) (r : Rel K G0 [] F σ H Γ) : Rel K G0 [] F (σ.set i none) H (put Γ i none) := by
  have r1 := r.forget i
  obtain ⟨h1, h2⟩ := Dl.unset (i := i) r.fit
  refine ⟨h2, fun _ _ m => by simp at m, ?_⟩
  show R K G0 H (ents (σ.set i none) (put Γ i none) ++ F)
  rw [h1]
  exact r1.r
end
def spI (K : PySem.W.Frag) (C : Addr) (f : Str) (g : PyData → PyData) (φ : PyData → Prop) : Sp := fun vs H Q _ => ∃ G0 a v d F, vs = [.ref a, v] ∧ R K G0 H ((.ref a, .ob (newP C a)) :: (v, .fz d) :: F) ∧ φ d ∧ ∀ H', R K G0 H' ((.ref a, .ob (madeP K C a f (g d))) :: F) → Q .non H'
theorem R.madeIs {K : PySem.W.Frag} {G0 H : Hp} {L : Ent} {u : V} {C a : Addr} {f : Str} {d : PyData} (r : R K G0 H ((u, .ob (madeP K C a f d)) :: L)) : u = .ref a := by
  obtain ⟨G, f0, g, s0, s1, h1, _⟩ := R.cons_iff.mp r
  unfold dn at h1
  obtain ⟨⟨_, _, e, _⟩, _⟩ := h1
  exact e
section
variable {P : Program} {w : World} {K : PySem.W.Frag} {mg : Str → Option Value} {base : Heap}
theorem fnI {x qual : Str} {st : Stmt} {f : Addr} {fd : FuncData} {N ps : List Str} {k : Nat} {C : Addr} {fl : Str} {g : PyData → PyData} {φ : PyData → Prop} (F : Fun K x qual st f fd) (S : FnScope N ps (defScope st)) (hn : ps.length = 2)
    (hbody : ∀ (cdv : Value) (A : Around) (outer : List Env) (s : Shared) (H : Hp) (E : XK), Room k (A.deeper (envOfC qual (defScope st) s.heap.objs.size f cdv)) →
      ∃ τ, DSs (cxOf CX0 P w K mg base N qual (defScope st) f cdv A outer s H E).nox (defBody st) τ ∧ ∀ a d, φ d → τ { nx := fun Γ => get Γ 0 = some (.ob (madeP K C a fl (g d))), rt := fun _ _ => False } (startG N [.ob (newP C a), .fz d])) :
    FnOk P w K mg base CX0 (k + 1) f fd ps (spI K C fl g φ) := by
  refine F.ok S (fun vs H Q E h => ?_) (fun cdv A outer s H vs Q E hr h => ?_)
  · obtain ⟨G0, a, v, d, F, rfl, _⟩ := h
    rw [hn]
    rfl
  · obtain ⟨τ, hτ, hq⟩ := hbody cdv A outer s H E hr
    obtain ⟨G0, a, v, d, F, rfl, r, hφ, q⟩ := h
    refine ⟨_, hτ, ?_⟩
    obtain ⟨e1, e2⟩ := ents_start (n := N.length - 2) (vs := [.ref a, v]) (os := [.ob (newP C a), .fz d]) rfl
    refine ⟨G0, startG N [.ob (newP C a), .fz d], F, _, ⟨e2, fun _ _ m => by simp at m, ?_⟩, hq a d hφ, ⟨fun Γ σ H' k1 r1 => ?_, fun _ _ _ _ _ _ z => z.elim, fun _ _ _ z => z.elim, fun _ _ _ z => z.elim⟩⟩
    · show R K G0 H (ents ([V.ref a, v].map some ++ List.replicate (N.length - 2) none) _ ++ F)
      rw [show startG N [.ob (newP C a), .fz d] = ([O.ob (newP C a), .fz d].map some ++ List.replicate (N.length - 2) none) from rfl, e1]
      exact r
    · obtain ⟨u, _, r2, _⟩ := r1.out k1
      have r3 : R K G0 H' ((u, .ob (madeP K C a fl (g d))) :: (ents σ (put Γ 0 none) ++ F)) := r2
      have r4 : R K G0 H' ((u, .ob (madeP K C a fl (g d))) :: F) := R.dropL (M := ents σ (put Γ 0 none)) (r3.perm List.perm_middle.symm)
      have e := R.madeIs r4
      subst e
      exact q H' r4
end
section
variable {X : Cx} {W : WX} {e : Expr} {es : List Expr} {τ : TEd} {τs : TAd} {B newId initId : String} {bm : List Value} {Bn x xs f : Str} {p p' p1 p2 pos pos' : Pos} {k j n : Nat}
/-- B.__init__(self, ..) -/
def dXi (K : PySem.W.Frag) (newId : String) (bm : List Value) (τs : TAd) : TEd := fun Γ Kt => τs Γ fun os Γ1 => ∃ i C a rest, os = .al i :: rest ∧ get Γ1 i = some (.ob (newP C a)) ∧ XC K C newId bm ∧ rest.length ≤ 1000 ∧ Kt (.fz .none) Γ1
theorem de_xinit {pl : Sem Bool} (b : XB B newId initId bm) (hm : X.mg Bn = none) (hv : bootBuiltins Bn = some (.type B)) (look : PySem.W.findCls X.K (.type B) (.type "type") "__init__" = some (.val (.builtin initId))) (ha : DA X (e :: es) τs) (hg : Gl X Bn := by rfl) (hn : Bn ≠ "__name__" := by decide) (hdb : (Bn == ("__debug__" : Str)) = false := by decide) (hst : Manifest.isStub B = false := by decide +kernel)
    (hh : PySem.W.handedIn (.builtin initId) = true := by decide +kernel)
    (hc : eval (.Call (.Attribute (.Name Bn p1) "__init__" p2) (e :: es) [] pos) X.env = (do
      let ov ← eval (.Name Bn p1) X.env
      standAt p2.atName
      let (f, first) ← holding [ov] (getMethod ov "__init__" pl)
      callWith pos f first (backTo pos (starEach (e :: es) X.env)) (backToKw pos (keywordEach [] X.env))) := by rfl)
    (he : starEach (e :: es) X.env = (false, eval e X.env) :: starEach es X.env := by rfl) (hpl : (backTo pos (starEach es X.env)).any (·.1) = false := by rfl) :
    DE X (.Call (.Attribute (.Name Bn p1) "__init__" p2) (e :: es) [] pos) (dXi X.K newId bm τs) :=
  peI (pe_xinit b hg hm hv hn hdb hst look hh ha hc he hpl) fun σ H Q ⟨G0, Γ, T, F, Kt, R1, k, q⟩ => ⟨G0, Γ, T, F, _, R1, k, fun os Γ1 vs H1 ⟨i, C, a, rest, eo, g, xc, hz, k1⟩ hl R2 => by
    subst eo
    cases vs with
    | nil => cases hl
    | cons v vr =>
      have R2' : Rel X.K G0 ((v, .al i) :: (vr.zip rest ++ T)) F σ H1 Γ1 := R2
      obtain ⟨G, fp, _, ⟨h1, _, h3⟩, _⟩ := R2'.slotOb g
      exact ⟨a, C, vr, by rw [h1], by rw [Nat.succ.inj hl]; exact hz, xc, h3, q _ Γ1 .non H1 k1 (R2.dropN.push fun _ => .non)⟩⟩
/-- self.f = e -/
def dXs (K : PySem.W.Frag) (newId : String) (bm : List Value) (i : Nat) (f : Str) (τ : TEd) : TSd := fun E Γ => τ Γ fun o Γ1 => esc Γ1 o fun d Γ2 => ∃ C a, get Γ2 i = some (.ob (newP C a)) ∧ XC K C newId bm ∧ PySem.W.findIn K (.ref C) f = some none ∧ E.nx (put Γ2 i (some (.ob (madeP K C a f d))))
theorem ds_xset (i : Nat) (b : XB B newId initId bm) (he : DE X e τ) (hN : X.N[i]? = some xs := by rfl) (hv : Vis X.env.scope xs := by first | exact Or.inl rfl | exact Or.inr (Or.inl rfl) | exact Or.inr (Or.inr rfl)) (hs : swapsWith e (some (.Attribute (.Name xs p1) f p')) pos.line X.env = pure false := by rfl) (hd : (xs == ("__debug__" : Str)) = false := by decide) (hcd : (xs == ("__classdict__" : Str)) = false := by decide) :
    DS X (.Assign [.Attribute (.Name xs p1) f p'] e pos) (dXs X.K newId bm i f τ) :=
  psI (ps_xset b (pe_var hN hv hd hcd) he hs) fun D σ H ⟨G0, Γ, F, E, R1, k, q⟩ => ⟨G0, Γ, [], F, _, R1, k, fun o Γ1 v H1 k1 R2 => by
    obtain ⟨d, Γ2, ⟨C, a, g, xc, hno, k2⟩, R3⟩ := R2.escape k1
    obtain ⟨u, h1, h2, h3⟩ := R3.out g
    obtain ⟨rfl, ha, hgo⟩ := R.setX (L := ents σ (put Γ2 i none) ++ F) h2
    refine ⟨.ref a, h1, a, C, rfl, xc, hno, ha, fun dx nx ne => q.nx _ σ _ k2 ?_⟩
    exact Rel.back h3 (fun _ _ m => by simp at m) (get_lt g) h1 (hgo dx f nx ne)⟩
/-- raise C(e) -/
def xRaise (C : Addr) (f : Str) (g : PyData → PyData) (φ : PyData → Prop) (τs : TAd) : TSx := fun E Γ => τs Γ fun os Γ1 => escs Γ1 os fun ds Γ2 => ∃ d, ds = [d] ∧ φ d ∧ E.ex (C, some (f, g d)) Γ2
structure CanI (P : Program) (w : World) (K : PySem.W.Frag) (mg : Str → Option Value) (base : Heap) (k : Nat) (x : Str) (C : Addr) (newId : String) (bm : List Value) (f : Str) (g : PyData → PyData) (φ : PyData → Prop) : Prop where
  mgC : mg x = some (.ref C)
  xc : XC K C newId bm
  ini : ∃ fI fd, PySem.W.findIn K (.ref C) "__init__" = some (some (.ref fI)) ∧ PySem.W.typeIn K (.ref fI) = some (.type "function") ∧ Binds K fd ["self", f] [] ∧ FnOk P w K mg base CX0 k fI fd ["self", f] (spI K C f g φ)
theorem pmk_of {C : Addr} {g : PyData → PyData} {φ : PyData → Prop} (b : XB B newId initId bm) (c : CanI X.prog X.w X.K X.mg X.base j x C newId bm f g φ) (hr : Room k X.A) (ha : DA X.nox [e] τs) (hj : j + 1 ≤ k) (hg : Gl X x)
    (hdb : (x == ("__debug__" : Str)) = false) (he : starEach [e] X.env = (false, eval e X.env) :: starEach [] X.env) (hpl : (backTo pos (starEach [] X.env)).any (·.1) = false) :
    PMk X (.Call (.Name x p) [e] [] pos) (tXm C (spI X.K C f g φ) (liftA X.K τs)) := by
  obtain ⟨mgC, xc, fI, fd, h1, h2, h3, h4⟩ := c
  exact pmk_x b xc h1 h2 h4 (hr.mono hj) h3 pass0 hg mgC (pa_nox ha) hdb he hpl
theorem dx_raise {C : Addr} {g : PyData → PyData} {φ : PyData → Prop} (b : XB B newId initId bm) (c : CanI X.prog X.w X.K X.mg X.base j x C newId bm f g φ) (tk : Takes X W) (hr : Room k X.A) (ha : DA X.nox [e] τs) (hj : j + 1 ≤ k := by decide) (hc : X.calm = true := by rfl) (hg : Gl X x := by rfl)
    (hdb : (x == ("__debug__" : Str)) = false := by decide) (he : starEach [e] X.env = (false, eval e X.env) :: starEach [] X.env := by rfl) (hpl : (backTo pos (starEach [] X.env)).any (·.1) = false := by rfl) :
    DSX X W (.Raise (some (.Call (.Name x p) [e] [] pos)) none pos') (xRaise C f g φ τs) :=
  psI (ps_raise hc tk (pmk_of b c hr ha hj hg hdb he hpl)) fun D σ H ⟨G0, Γ, F, E, R1, k, q, qx⟩ => ⟨G0, Γ, [], F, _, R1, k, fun os Γ1 vs H1 k1 hl R2 => by
    obtain ⟨ds, Γ2, ⟨d, rfl, hφ, hx⟩, hl2, R3⟩ := Rel.escapes hl R2 k1
    match vs, hl2 with
    | [v], _ =>
      refine ⟨by show 1 ≤ 1000; decide, fun a na => ?_⟩
      have r0 : R X.K G0 H1 ((v, .fz d) :: (ents σ Γ2 ++ F)) := R3.r
      refine ⟨G0, a, v, d, ents σ Γ2 ++ F, rfl, R.newX r0 na, hφ, fun H' r' => ?_⟩
      obtain ⟨dx, y, e1, e2, r2⟩ := R.letgo r'
      refine ⟨rfl, dx, [(f, y)], e1, e2, qx (C, some (f, g d)) (some dx) Γ2 σ _ hx ⟨dx, rfl, R3.fit, AlOk.cons (fun _ _ m => by simp at m) (fun _ z => nomatch z), r2⟩⟩⟩
def sufE (i : Nat) (E : DEnds) : DEnds := { nx := fun Γ2 => E.nx (put Γ2 i none), rt := E.rt, bk := fun Γ2 => E.bk (put Γ2 i none), ct := fun Γ2 => E.ct (put Γ2 i none) }
def dTry (K : PySem.W.Frag) (cs : List Value) (i : Nat) (t : TSx) (s : TSd) : TSd := fun E Γ => t { nx := E.nx, rt := E.rt, bk := E.bk, ct := E.ct, ex := fun x Γ1 => PySem.W.exmAny K (.ref x.1) cs = some true ∧ s (sufE i E) (put Γ1 i (some (.ob (exP K x)))) } Γ
theorem ds_try {t : Expr} {nm : Str} {cs : List Value} {b₀ : Stmt} {body suite : List Stmt} {tb : TSx} {ts : TSd} (i : Nat) (hN : X.N.Nodup) (hc : ExTest X t cs)
    (hb : ∀ (W : WX) (pn : List (Addr × Obj)) (xe : Value → Shared → Prop), Takes (X.tr pn xe) W → PassesOwn (model X.prog X.w) X.A X.env xe → DSXs (X.tr pn xe) W body tb)
    (hsu : ∀ (a : Addr) (pn : List (Addr × Obj)), DSs (X.suite a pn) (b₀ :: suite) ts)
    (hs : X.stack = X.env :: X.outer := by rfl) (hf : X.env.frame = some X.env.locals := by rfl) (hex : X.ex = [] := by rfl) (hi : X.N[i]? = some nm := by rfl) (hln : X.env.kindOf nm = some .local := by rfl) :
    DS X (.Try body [.ExceptHandler (some t) (some nm) (b₀ :: suite) pos'] [] [] pos) (dTry X.K cs i tb ts) :=
  psI (ps_tryT (tb := fun W => liftSX X.K W tb) (ts := liftS X.K ts) hs hf hex hN hi hln hc hb hsu) fun D σ H ⟨G0, Γ, F, E, R1, k, q⟩ => ⟨G0, Γ, F, _, R1, k, ⟨q.nx, q.rt, q.bk, q.ct⟩, fun x d Γ' σ' H' hx xr => by
    obtain ⟨h1, h2⟩ := hx
    refine ⟨h1, fun a na => ⟨G0, put Γ' i (some (.ob (exP X.K x))), F, _, ?_, h2, ?_⟩⟩
    · obtain ⟨C, o⟩ := x
      cases o with
      | none =>
        obtain ⟨rfl, r⟩ := xr
        have r2 : R X.K G0 H' (ents σ' Γ' ++ F) := r.r
        have r3 : Rel X.K G0 [(.ref a, .ob (exP X.K (C, none)))] F σ' (upd H' a (exT (.ref C) none a)) Γ' := ⟨r.fit, AlOk.cons (fun _ _ m => by simp at m) (fun _ z => nomatch z), R.caught0 r2 na⟩
        exact r3.toF'.store
      | some p =>
        obtain ⟨fl, p⟩ := p
        obtain ⟨dx, rfl, r⟩ := xr
        have r2 : R X.K G0 H' ((.ref dx, .ob (xdP X.K fl p)) :: (ents σ' Γ' ++ F)) := r.r
        have r3 : Rel X.K G0 [(.ref a, .ob (exP X.K (C, some (fl, p))))] F σ' (upd H' a (exT (.ref C) (some dx) a)) Γ' := ⟨r.fit, AlOk.cons (fun _ _ m => by simp at m) (fun _ z => nomatch z), R.caught r2 na⟩
        exact r3.toF'.store
    · exact ⟨fun Γ1 σ1 H1 k1 r1 => q.nx _ _ _ k1 (r1.unset i), fun o Γ1 v σ1 H1 n1 k1 r1 => q.rt o Γ1 v σ1 H1 n1 k1 r1, fun Γ1 σ1 H1 k1 r1 => q.bk _ _ _ k1 (r1.unset i), fun Γ1 σ1 H1 k1 r1 => q.ct _ _ _ k1 (r1.unset i)⟩⟩
/-- y = n, n's an exception -/
def dCopyX (K : PySem.W.Frag) (j i : Nat) : TSd := fun E Γ => ∃ x : XS, get Γ i = some (.ob (exP K x)) ∧ E.nx (put Γ j (some (.ob (exP K x))))
theorem ds_copyX (j i : Nat) {y z : Str} (hN : X.N.Nodup) (hi : X.N[i]? = some z := by rfl) (hv : Vis X.env.scope z := by first | exact Or.inl rfl | exact Or.inr (Or.inl rfl) | exact Or.inr (Or.inr rfl)) (hd : (z == ("__debug__" : Str)) = false := by decide) (hcd : (z == ("__classdict__" : Str)) = false := by decide)
    (hj : X.N[j]? = some y := by rfl) (hx : Loc X.env.scope y := by first | exact Or.inl rfl | exact Or.inr rfl) (hs : swapsWith (.Name z p) (some (.Name y p')) pos.line X.env = pure false := by rfl) (hf : X.fn y = true ∨ X.env.scope.names.lookup y = some .local := by first | exact .inl rfl | exact .inr rfl) :
    DS X (.Assign [.Name y p'] (.Name z p) pos) (dCopyX X.K j i) := psI (ps_set (i := j) hN hj hx (pe_var hi hv hd hcd) hs hf) fun D σ H ⟨G0, Γ, F, E, R1, ⟨x, g, k⟩, q⟩ => by
  obtain ⟨v, h1, h2, h3⟩ := R1.out g
  refine ⟨v, h1, q.nx _ _ H k ?_⟩
  have r2 := R.dup h2 fun _ _ _ _ z => z.1
  have r3 := Rel.back (v := v) (T := [(v, .ob (exP X.K x))]) h3 (AlOk.cons (fun _ _ m => by simp at m) (fun _ z => nomatch z)) (get_lt g) h1 (r2.perm (.swap _ _ _))
  have e : put Γ i (some (.ob (exP X.K x))) = Γ := de_of_var.put_get g
  rw [e] at r3
  exact r3.toF'.store
theorem ds_copyS (j i : Nat) {y z : Str} (hN : X.N.Nodup) (hi : ∀ a pn, (X.suite a pn).N[i]? = some z := by intros; rfl) (hv : ∀ a pn, Vis (X.suite a pn).env.scope z := by intros; first | exact Or.inl rfl | exact Or.inr (Or.inl rfl) | exact Or.inr (Or.inr rfl)) (hd : (z == ("__debug__" : Str)) = false := by decide) (hcd : (z == ("__classdict__" : Str)) = false := by decide)
    (hj : ∀ a pn, (X.suite a pn).N[j]? = some y := by intros; rfl) (hx : ∀ a pn, Loc (X.suite a pn).env.scope y := by intros; first | exact Or.inl rfl | exact Or.inr rfl) (hs : ∀ a pn, swapsWith (.Name z p) (some (.Name y p')) pos.line (X.suite a pn).env = pure false := by intros; rfl) (hf : ∀ a pn, (X.suite a pn).fn y = true ∨ (X.suite a pn).env.scope.names.lookup y = some .local := by intros; first | exact .inl rfl | exact .inr rfl) :
    ∀ (a : Addr) (pn : List (Addr × Obj)), DSs (X.suite a pn) [.Assign [.Name y p'] (.Name z p) pos] (dCopyX X.K j i) := fun a pn => ds_single (ds_copyX (X := X.suite a pn) j i hN (hi a pn) (hv a pn) hd hcd (hj a pn) (hx a pn) (hs a pn) (hf a pn))
end
end Dl
end
section
set_option maxHeartbeats 4000000
namespace Dl
open PySem PySem.Spec PyProof.Rows L2
/-- the class of a caught exception, or None's -/
def ExTy (K : PySem.W.Frag) (H : Hp) (v : V) (t : Value) : Prop := (∃ a C d, v = .ref a ∧ t = .ref C ∧ ExcC K C ∧ H a = some (exT (.ref C) d a) ∧ ∀ dx, d = some dx → ∃ fs, H dx = some (.xd fs)) ∨ TyX K H v t
section
variable {X : Cx}
theorem exc_inst {pins : List (Addr × Obj)} {σ : L2.St} {H : Hp} {s : Shared} {a C : Addr} {d : Option Addr} (I : Inv X pins σ H s) (e : H a = some (exT (.ref C) d a)) (hd : ∀ dx, d = some dx → ∃ fs, H dx = some (.xd fs)) : ∃ ox od, PySem.W.InstAt s.heap a ox C od := by
  obtain ⟨oe, vs, e1, z, e2⟩ := exT_at I.hok e
  have no : PySem.W.notCls oe = true := by unfold PySem.W.notCls; rw [e2] <;> rfl
  cases d with
  | none => exact ⟨oe, none, e1, z.1, no, by rw [z.2]; trivial⟩
  | some dx =>
    obtain ⟨fs, e3⟩ := hd dx rfl
    obtain ⟨mA, hns, _⟩ := (show ObjOk X.prog X.w H s.heap dx (.xd fs) from I.hok dx _ e3)
    obtain ⟨o, _, _, e4, _⟩ := hns
    exact ⟨oe, some o, e1, z.1, no, by rw [z.2]; exact e4⟩
theorem exc_kit {pins : List (Addr × Obj)} {σ : L2.St} {H : Hp} {s : Shared} {v : V} {t u : Value} (I : Inv X pins σ H s) (r : RelV v u) (ty : ExTy X.K H v t) : ∃ P, PySem.W.KitX X.K u t P ∧ P s.heap ∧ u ≠ .builtin "__main__.__loader__#opaque" := by
  rcases ty with ⟨a, C, d, rfl, rfl, c, e, hd⟩ | ty
  · have eu : u = Value.ref a := r
    subst eu
    obtain ⟨ox, od, J⟩ := exc_inst I e hd
    obtain ⟨cd, hc, _⟩ := PySem.W.any_some c.hd
    exact ⟨_, PySem.W.kitx_exc (by rw [hc]; rfl) c.hg c.hk c.hs c.ha c.hn c.ht c.hm, J, fun z => nomatch z⟩
  · obtain ⟨P, Z, p, hx⟩ := kit_of I r ty
    exact ⟨P, Z, p, hx⟩
def rIsX (K : PySem.W.Frag) : List V → Hp → VK → Prop := fun xs H Q => ∃ (v c : V) (t u : Value) (b : Bool), xs = [v, c] ∧ ClsV c u ∧ ExTy K H v t ∧ PySem.W.kitOne K t u = some b ∧ Q (.bl b) H
theorem call_isX : CallR X (.builtin "isinstance") (rIsX X.K) := by
  intro pins s σ H xs us Q I r h
  obtain ⟨v, c, t, u, b, rfl, k, ty, e, q⟩ := h
  obtain ⟨u1, u2, rfl, r1, r2⟩ := vals2 r
  have e2 := k.eq r2
  subst e2
  obtain ⟨P, Z, p, hx⟩ := exc_kit I r1 ty
  exact PySem.W.kia_one Z I.kIn p e hx fun tk => ⟨.bl b, H, I.tok tk, rfl, q⟩
def rIsXT (K : PySem.W.Frag) : List V → Hp → VK → Prop := fun xs H Q => ∃ (v : V) (tp : Addr) (cs : List V) (t : Value) (us : List Value) (b : Bool), xs = [v, .ref tp] ∧ H tp = some (.tup cs) ∧ Paired ClsV cs us ∧ ExTy K H v t ∧ PySem.W.kitAny K t us = some b ∧ Q (.bl b) H
theorem call_isXT : CallR X (.builtin "isinstance") (rIsXT X.K) := by
  intro pins s σ H xs us Q I r h
  obtain ⟨v, tp, cs, t, ws, b, rfl, hT, k, ty, e, q⟩ := h
  obtain ⟨u1, u2, rfl, r1, r2⟩ := vals2 r
  have e2 : u2 = Value.ref tp := r2
  subst e2
  obtain ⟨P, Z, p, hx⟩ := exc_kit I r1 ty
  obtain ⟨_, its, rv, o, h1, h2, n, h3⟩ := (show ObjOk X.prog X.w H s.heap tp (.tup cs) from I.hok tp _ hT)
  have e3 := ClsV.all k rv
  subst e3
  obtain ⟨oc, od, dt, sl⟩ := o
  simp only at h2 h3
  subst h2 h3
  exact PySem.W.kia_tup Z I.kIn p h1 e hx fun tk => ⟨.bl b, H, I.tok tk, rfl, q⟩
end
/-- the class of what is at hand: an exception by its name, or data -/
def onCls (K : PySem.W.Frag) (Γ : Gm) (o : O) (k : Value → Prop) : Prop := (∃ i x, o = .al i ∧ get Γ i = some (.ob (exP K x)) ∧ ExcC K x.1 ∧ k (.ref x.1)) ∨ (∃ d, vw Γ o = some d ∧ noDict d ∧ k (.type (tyName d)))
section
variable {K : PySem.W.Frag} {G0 H : Hp} {T F : Ent} {σ : Sl} {Γ : Gm} {v : V} {o : O}
theorem exP_use {x : XS} {i : Nat} (r : Rel K G0 ((v, .al i) :: T) F σ H Γ) (g : get Γ i = some (.ob (exP K x))) : ∃ a d, v = .ref a ∧ H a = some (exT (.ref x.1) d a) ∧ ∀ dx, d = some dx → ∃ fs, H dx = some (.xd fs) := by
  obtain ⟨G, fp, s, ⟨_, a, e, h⟩, _⟩ := r.slotOb g
  obtain ⟨C, fo⟩ := x
  cases fo with
  | none => exact ⟨a, none, e, s _ _ h, fun _ z => nomatch z⟩
  | some p =>
    obtain ⟨f, d⟩ := p
    obtain ⟨dx, y, h1, h2, _⟩ := h
    refine ⟨a, some dx, e, s _ _ h1, fun dy z => ?_⟩
    cases z
    exact ⟨_, s _ _ h2⟩
theorem onCls_use {k : Value → Prop} (r : Rel K G0 ((v, o) :: T) F σ H Γ) (h : onCls K Γ o k) : ∃ t, ExTy K H v t ∧ k t := by
  rcases h with ⟨i, x, rfl, g, c, hk⟩ | ⟨d, hv, nd, hk⟩
  · obtain ⟨a, d, e, h1, h2⟩ := exP_use r g
    exact ⟨_, .inl ⟨a, x.1, d, e, rfl, c, h1, h2⟩, hk⟩
  · exact ⟨_, .inr (dq_ty (r.view hv)), hk⟩
end
theorem onCls_use2 {K : PySem.W.Frag} {G0 H H' : Hp} {T F : Ent} {σ : Sl} {Γ : Gm} {v : V} {o : O} {k : Value → Prop} (s : Same H H') (r : Rel K G0 ((v, o) :: T) F σ H Γ) (h : onCls K Γ o k) : ∃ t, ExTy K H' v t ∧ k t := by
  rcases h with ⟨i, x, rfl, g, c, hk⟩ | ⟨d, hv, nd, hk⟩
  · obtain ⟨a, d, e, h1, h2⟩ := exP_use r g
    refine ⟨_, .inl ⟨a, x.1, d, e, rfl, c, s _ _ h1, fun dx z => ?_⟩, hk⟩
    obtain ⟨fs, h3⟩ := h2 dx z
    exact ⟨fs, s _ _ h3⟩
  · exact ⟨_, .inr (dq_ty (dp_mono s d v (r.view hv))), hk⟩
section
variable {X : Cx} {pos : Pos} {e : Expr} {es : List Expr} {τ τa τb : TEd} {τs : TAd} {a : Expr} {p p1 p2 p3 : Pos} {x1 x2 : Str}
/-- a name that tells a class -/
inductive ClsN (X : Cx) (x : Str) (c : V) (u : Value) : Prop where
  | own {C : Addr} (hm : X.mg x = some (.ref C)) (hc : c = .ref C) (hu : u = .ref C)
  | blt {T : String} (hm : X.mg x = none) (hv : bootBuiltins x = some (.type T)) (hn : x ≠ "__name__") (hc : c = .ty T) (hu : u = .type T)
theorem ClsN.v {x : Str} {c : V} {u : Value} (h : ClsN X x c u) : ClsV c u := by
  cases h with
  | own hm hc hu => rw [hc, hu]; exact .own _
  | blt hm hv hn hc hu => rw [hc, hu]; exact .ty _
theorem ClsN.pe {x : Str} {c : V} {u : Value} (h : ClsN X x c u) (hg : Gl X x) (hd : (x == ("__debug__" : Str)) = false) : PE X (.Name x pos) (tC c) := by
  cases h with
  | own hm hc hu => rw [hc]; exact pe_glob hg hm rfl hd
  | blt hm hv hn hc hu => rw [hc]; exact pe_bltn hg hm hv rfl hn hd
def dIsX (K : PySem.W.Frag) (u : Value) (τ : TEd) : TEd := fun Γ Kt => τ Γ fun o Γ1 => onCls K Γ1 o fun t => ∃ b, PySem.W.kitOne K t u = some b ∧ Kt (.fz (.bool b)) Γ1
theorem de_isX {c : V} {u : Value} (hcn : ClsN X x1 c u) (he : DE X e τ) (hm : X.mg "isinstance" = none) (hg : Gl X "isinstance" := by rfl) (hg1 : Gl X x1 := by rfl) (hd1 : (x1 == ("__debug__" : Str)) = false := by decide)
    (hs : starEach (e :: [.Name x1 p1]) X.env = (false, eval e X.env) :: starEach [.Name x1 p1] X.env := by rfl) (hs1 : starEach (.Name x1 p1 :: []) X.env = (false, eval (.Name x1 p1) X.env) :: starEach [] X.env := by rfl) (hpl : (backTo pos (starEach [.Name x1 p1] X.env)).any (·.1) = false := by rfl) :
    DE X (.Call (.Name "isinstance" p) [e, .Name x1 p1] [] pos) (dIsX X.K u τ) :=
  peI (pe_callB call_isX hg hm (by decide +kernel) (pa_cons he (pa_cons (hcn.pe hg1 hd1) pa_nil hs1) hs) (by decide) (by decide) hs hpl) fun σ H Q ⟨G0, Γ, Tm, F, Kt, R1, k, q⟩ => ⟨G0, Γ, Tm, F, _, R1, k, fun o Γ1 v H1 k1 R2 => by
    obtain ⟨t, h1, b, h2, h3⟩ := onCls_use R2 k1
    exact ⟨v, c, t, u, b, rfl, hcn.v, h1, h2, q _ Γ1 _ H1 h3 (R2.drop.push fun _ => .bl _)⟩⟩
def dIsX2 (K : PySem.W.Frag) (us : List Value) (τ : TEd) : TEd := fun Γ Kt => τ Γ fun o Γ1 => onCls K Γ1 o fun t => ∃ b, PySem.W.kitAny K t us = some b ∧ Kt (.fz (.bool b)) Γ1
def tFx (K : PySem.W.Frag) (f : Str) (te : TE) : TE := fun σ H Q => te σ H fun x H1 => ∃ (a C dx : Addr) (v : V), x = .ref a ∧ XfC K C ∧ PySem.W.findIn K (.ref C) f = some none ∧ H1 a = some (exT (.ref C) (some dx) a) ∧ H1 dx = some (.xd [(f, v)]) ∧ Q v H1
theorem pe_fx {te : TE} {f : Str} (he : PE X e te) (hb : attributeBase e f X.env (eval e X.env) = eval e X.env := by rfl) : PE X (.Attribute e f pos) (tFx X.K f te) := by
  refine ⟨fun pins s σ H Q I h => ?_⟩
  refine attr_of hb (thn (he.run pins s σ H _ I h) fun u s1 hh => ?_)
  obtain ⟨x, H1, I1, rx, a, C, dx, v, rfl, T, hno, h1, h2, q⟩ := hh
  have eu : u = Value.ref a := rx
  subst eu
  obtain ⟨oe, vs, e1, z, e2⟩ := exT_at I1.hok h1
  obtain ⟨mA, hns, hr⟩ := (show ObjOk X.prog X.w H1 s1.heap dx (.xd [(f, v)]) from I1.hok dx _ h2)
  obtain ⟨od, ho, hl⟩ := lookIn_ns hns
  have hf : List.lookup f [(f, v)] = some v := by simp [List.lookup]
  have hrf := hr f
  rw [hf] at hrf
  obtain ⟨w, hw, rw'⟩ := RelO.some_of hrf
  have J : PySem.W.InstAt s1.heap a oe C (some od) := ⟨e1, z.1, by unfold PySem.W.notCls; rw [e2] <;> rfl, by rw [z.2]; exact ho⟩
  exact HandSPX.exc_get I1.kIn J T.ga T.gg T.exC (PySem.W.findObj_own T.hdC hno rfl (by rw [hl, hw])) (handed_of rw') ⟨v, H1, I1.tok _, rw', q⟩
def dFx (K : PySem.W.Frag) (f : Str) (τ : TEd) : TEd := fun Γ Kt => τ Γ fun o Γ1 => ∃ i C d, o = .al i ∧ get Γ1 i = some (.ob (exP K (C, some (f, d)))) ∧ XfC K C ∧ PySem.W.findIn K (.ref C) f = some none ∧ Kt (.fz d) Γ1
theorem Rel.fieldX {K : PySem.W.Frag} {G0 H : Hp} {T F : Ent} {σ : Sl} {Γ : Gm} {v : V} {i : Nat} {C : Addr} {f : Str} {d : PyData} (r : Rel K G0 ((v, .al i) :: T) F σ H Γ) (g : get Γ i = some (.ob (exP K (C, some (f, d))))) :
    ∃ a dx y, v = .ref a ∧ H a = some (exT (.ref C) (some dx) a) ∧ H dx = some (.xd [(f, y)]) ∧ Rel K G0 ((y, .fz d) :: T) F σ H Γ := by
  have r1 := r.drop
  obtain ⟨w, h1, h2, h3⟩ := r1.out g
  have ev := r.al v i List.mem_cons_self
  rw [h1] at ev
  cases ev
  obtain ⟨G, f0, g0, s0, s1, h4, h5, nd, hn⟩ := R.cons_iff.mp h2
  have h4' := h4
  unfold dn at h4'
  obtain ⟨⟨rfl, a, rfl, dx, y, q1, q2, q3⟩, _⟩ := h4'
  refine ⟨a, dx, y, rfl, s1 _ _ q1, s1 _ _ q2, r1.fit, r1.al.cons (fun _ z => nomatch z), ?_⟩
  have r2 : R K G0 H ((.ref a, .ob (exP K (C, some (f, d)))) :: ((y, .fz d) :: T ++ (ents σ (put Γ i none) ++ F))) := by
    refine R.cons_iff.mpr ⟨G, [], [] ++ g0, s0, s1, h4, ?_, nd, hn⟩
    simp only [tO, tV, List.cons_append, List.map_cons]
    unfold dnAll
    refine ⟨_, _, [], g0, rfl, rfl, ?_, h5⟩
    unfold dn
    exact ⟨q3, rfl⟩
  have r3 := Rel.back (T := (y, .fz d) :: T) h3 (r1.al.cons (fun _ z => nomatch z)) (get_lt g) h1 r2
  have e : put Γ i (some (.ob (exP K (C, some (f, d))))) = Γ := de_of_var.put_get g
  rw [e] at r3
  exact r3.r
theorem de_fx {f : Str} (he : DE X e τ) (hb : attributeBase e f X.env (eval e X.env) = eval e X.env := by rfl) : DE X (.Attribute e f pos) (dFx X.K f τ) :=
  peI (pe_fx he hb) fun σ H Q ⟨G0, Γ, Tm, F, Kt, R1, k, q⟩ => ⟨G0, Γ, Tm, F, _, R1, k, fun o Γ1 v H1 ⟨i, C, d, eo, g, T, hno, k1⟩ R2 => by
    subst eo
    obtain ⟨a, dx, y, e, h1, h2, r⟩ := R2.fieldX g
    exact ⟨a, C, dx, y, e, T, hno, h1, h2, q _ Γ1 _ H1 k1 r⟩⟩
end
end Dl
end
section
set_option maxHeartbeats 4000000
namespace Dl
open PySem PySem.Spec PyProof.Rows L2
section
variable {K : PySem.W.Frag} {G0 G H : Hp} {L : Ent} {v w : V} {os ps : List O}
theorem dnAll_app : ∀ {os ps : List O} {xs zs : List V} {f g : List Addr}, dnAll K G H os xs f → dnAll K G H ps zs g → dnAll K G H (os ++ ps) (xs ++ zs) (f ++ g)
  | [], ps, xs, zs, f, g, h, k => by
    unfold dnAll at h
    obtain ⟨rfl, rfl⟩ := h
    exact k
  | o :: os, ps, xs, zs, f, g, h, k => by
    unfold dnAll at h
    obtain ⟨v, vr, f1, f2, rfl, rfl, h1, h2⟩ := h
    have q := dnAll_app h2 k
    rw [List.cons_append, List.cons_append, List.append_assoc]
    unfold dnAll
    exact ⟨v, vr ++ zs, f1, f2 ++ g, rfl, rfl, h1, q⟩
end
section
variable {X : Cx} {pos : Pos} {e : Expr} {es : List Expr} {τ τa τb : TEd} {τs : TAd} {a b : Expr} {p p1 p2 : Pos}
theorem hu_in {A : Around} {k : Nat} (hr : Room k A) : A.units + 65 < cLine := by have := hr.un; omega
end
end Dl
end
section
set_option maxHeartbeats 4000000
namespace Dl
open PySem PySem.Spec PyProof.Rows L2
abbrev bothB {a b : Bool} (h : (a && b) = true) : a = true ∧ b = true := Bool.and_eq_true_iff.mp h
def clsXB (K : PySem.W.Frag) (C : Addr) (newId : String) (bm : List Value) : Bool := match K.lookup C with
  | some ⟨.type t, _, .cls cd, sl⟩ => decide (t = "type") && (match cd.mro, sl.toList with
    | .ref c :: b, [_, _, _, _, some (.builtin n), _] => decide (c = C) && (decide (n = newId) && (decide (b = bm) && (!cd.hasDel && cd.hasDict)))
    | _, _ => false)
  | _ => false
theorem clsXB_ok {K : PySem.W.Frag} {C : Addr} {newId : String} {bm : List Value} (q : clsXB K C newId bm = true) : ∃ nm q N bs sn sub ab col dd k0 k1 k2 k3 k5, K.lookup C = some (excClassObj nm q C N bs bm true sn sub ab col dd k0 k1 k2 k3 k5 newId) := by
  unfold clsXB at q
  split at q
  · rename_i t dd cd sl ho
    obtain ⟨q1, q2⟩ := bothB q
    have et := of_decide_eq_true q1
    subst et
    split at q2
    · rename_i c bm' k0 k1 k2 k3 n k5 hm hs
      obtain ⟨r1, q3⟩ := bothB q2
      obtain ⟨r2, q4⟩ := bothB q3
      obtain ⟨r3, q5⟩ := bothB q4
      obtain ⟨r4, r5⟩ := bothB q5
      have e1 := of_decide_eq_true r1
      have e2 := of_decide_eq_true r2
      have e3 := of_decide_eq_true r3
      subst e1 e2 e3
      obtain ⟨nm, bs, mro, ns, qn, hd, sn, sub, ab, col, del⟩ := cd
      dsimp only at hm r4 r5
      have e4 : del = false := by simpa using r4
      subst hm e4 r5
      obtain ⟨l⟩ := sl
      simp only at hs
      subst hs
      exact ⟨nm, qn, ns, bs, sn, sub, ab, col, dd, k0, k1, k2, k3, k5, ho⟩
    · cases q2
  · cases q
def xcB (K : PySem.W.Frag) (C : Addr) (newId : String) (bm : List Value) : Bool := clsXB K C newId bm && (He.eqO (PySem.W.findIn K (.ref C) "__setattr__") (some (some (.builtin "object.__setattr__"))) && (decide (PySem.W.subIn K (.ref C) (.type "BaseException") = some true) && (decide (PySem.W.typeIn K (.ref C) = some (.type "type")) && PySem.W.keepIn K (.ref C))))
theorem xcB_ok {K : PySem.W.Frag} {C : Addr} {newId : String} {bm : List Value} (q : xcB K C newId bm = true) : XC K C newId bm := by
  obtain ⟨q1, q⟩ := bothB q
  obtain ⟨q2, q⟩ := bothB q
  obtain ⟨q3, q⟩ := bothB q
  obtain ⟨q4, q5⟩ := bothB q
  exact ⟨clsXB_ok q1, He.eqO_ok q2, of_decide_eq_true q3, of_decide_eq_true q4, q5⟩
def ecB (K : PySem.W.Frag) (C : Addr) : Bool := He.eqO (PySem.W.findIn K (.ref C) "__getattribute__") (some (some (.builtin "BaseException.__getattribute__"))) && (He.eqO (PySem.W.findIn K (.ref C) "__getattr__") (some none) && (decide (PySem.W.subIn K (.ref C) (.type "BaseException") = some true) && (PySem.W.hasDictIn K C &&
  (He.eqO (PySem.W.findIn K (.ref C) "__class__") (some (some (.builtin "object.__class__"))) && (He.eqO (PySem.W.specialIn K (.builtin "object.__class__") "__get__") (some (some (.builtin "getset_descriptor.__get__"))) && (decide (PySem.W.takesIn K (.builtin "object.__class__") = some true) && decide (PySem.W.mroIn K C (.type "object") = some true)))))))
theorem ecB_ok {K : PySem.W.Frag} {C : Addr} (q : ecB K C = true) : ExcC K C ∧ XfC K C := by
  obtain ⟨q1, q⟩ := bothB q
  obtain ⟨q2, q⟩ := bothB q
  obtain ⟨q3, q⟩ := bothB q
  obtain ⟨q4, q⟩ := bothB q
  obtain ⟨q5, q⟩ := bothB q
  obtain ⟨q6, q⟩ := bothB q
  obtain ⟨q7, q8⟩ := bothB q
  exact ⟨⟨He.eqO_ok q1, He.eqO_ok q2, of_decide_eq_true q3, q4, He.eqO_ok q5, He.eqO_ok q6, of_decide_eq_true q7, of_decide_eq_true q8⟩, ⟨He.eqO_ok q1, He.eqO_ok q2, of_decide_eq_true q3, q4⟩⟩
abbrev iAt (K : PySem.W.Frag) (x : Str) : Addr := He.ma K (He.ga K x) "__init__"
/-- an own class x with its __init__ and the field f -/
def ownB (K : PySem.W.Frag) (x : Str) (newId : String) (bm : List Value) (f : Str) : Bool := xcB K (He.ga K x) newId bm && (ecB K (He.ga K x) && (He.eqO (PySem.W.findIn K (.ref (He.ga K x)) "__init__") (some (some (.ref (iAt K x)))) && (decide (PySem.W.typeIn K (.ref (iAt K x)) = some (.type "function")) && He.eqO (PySem.W.findIn K (.ref (He.ga K x)) f) (some none))))
structure OwnX (K : PySem.W.Frag) (x : Str) (newId : String) (bm : List Value) (f : Str) : Prop where
  xc : XC K (He.ga K x) newId bm
  ec : ExcC K (He.ga K x)
  xf : XfC K (He.ga K x)
  hi : PySem.W.findIn K (.ref (He.ga K x)) "__init__" = some (some (.ref (iAt K x)))
  ht : PySem.W.typeIn K (.ref (iAt K x)) = some (.type "function")
  no : PySem.W.findIn K (.ref (He.ga K x)) f = some none
theorem ownB_ok {K : PySem.W.Frag} {x : Str} {newId : String} {bm : List Value} {f : Str} (q : ownB K x newId bm f = true) : OwnX K x newId bm f := by
  obtain ⟨q1, q⟩ := bothB q
  obtain ⟨q2, q⟩ := bothB q
  obtain ⟨q3, q⟩ := bothB q
  obtain ⟨q4, q5⟩ := bothB q
  obtain ⟨h1, h2⟩ := ecB_ok q2
  exact ⟨xcB_ok q1, h1, h2, He.eqO_ok q3, of_decide_eq_true q4, He.eqO_ok q5⟩
/-- a built-in class's own __init__ -/
def binB (K : PySem.W.Frag) (B initId : String) : Bool := match PySem.W.findCls K (.type B) (.type "type") "__init__" with
  | some (.val (.builtin n)) => decide (n = initId)
  | _ => false
theorem binB_ok {K : PySem.W.Frag} {B initId : String} (q : binB K B initId = true) : PySem.W.findCls K (.type B) (.type "type") "__init__" = some (.val (.builtin initId)) := by
  unfold binB at q
  split at q
  · rename_i n e
    rw [e, of_decide_eq_true q]
  · cases q
/-- the pairs of classes of which isinstance, except tell -/
def kitB (K : PySem.W.Frag) (t c : Value) (b : Bool) : Bool := decide (PySem.W.kitOne K t c = some b)
def exmB (K : PySem.W.Frag) (t : Value) (cs : List Value) (b : Bool) : Bool := decide (PySem.W.exmAny K t cs = some b)
abbrev AlX : Type := He.AlD × Bool
def obsX (n : Nat) (fa : List He.Fa) (fn : List He.DefD) (xs : PySem.W.Frag → Bool) (g : Addr → Option Obj) : AlX := (He.obsD fa fn (He.frG g (He.asD g n)), xs (He.frG g (He.asD g n)))
def hookX (n : Nat) (fa : List He.Fa) (fn : List He.DefD) (xs : PySem.W.Frag → Bool) : PySem.W.Hook where
  α := AlX
  obs := fun s => obsX n fa fn xs s.heap.get?
  val := fun _ => (He.valD fn, true)
  says := fun _ h => ∃ K : PySem.W.Frag, K.In h ∧ He.SaysD fa fn K ∧ xs K = true
  of := fun _ _ e => ⟨_, He.frG_in, congrArg Prod.fst e, congrArg Prod.snd e⟩
  keeps := fun _ _ _ ⟨K, hK, c⟩ k => ⟨K, PySem.W.Frag.In.keeps hK k, c⟩
theorem obsX_eq {n : Nat} {fa : List He.Fa} {fn : List He.DefD} {xs : PySem.W.Frag → Bool} {g : Addr → Option Obj} {s : Shared} (h : ∀ a, g a = s.heap.get? a) : obsX n fa fn xs g = (hookX n fa fn xs).obs s := by
  have e : g = s.heap.get? := funext h
  rw [e] <;> rfl
end Dl
end
section
set_option maxHeartbeats 4000000
namespace Dl
open PySem PySem.Spec PyProof.Rows L2
end Dl
end
section
set_option maxHeartbeats 4000000
namespace Dl
open PySem PySem.Spec PyProof.Rows L2
end Dl
end
section
set_option maxHeartbeats 4000000
namespace Dl
open PySem PySem.Spec PyProof.Rows L2
/-- max, min of a list of ints -/
theorem fit_maxL {K : PySem.W.Frag} : FitC K (rMax K) (fun Γ os Kt => onInts Γ os fun is => 0 < is.length ∧ ∀ m, m ∈ is → (∀ y, y ∈ is → y ≤ m) → Kt (.fz (.int m)) Γ) := fun G0 Γ T F σ H vs os Kt Q hl R1 h q => by
  obtain ⟨a, is, rfl, hs, h, R2⟩ := onInts_use hl R1 h
  exact ⟨a, is, rfl, hs, h.1, fun m h1 h2 => q _ Γ _ _ (h.2 m h1 h2) (R2.push fun _ => .int _)⟩
end Dl
end
section
set_option maxHeartbeats 4000000
namespace Dl
open PySem PySem.Spec PyProof.Rows L2
end Dl
namespace Dl
open PySem PySem.Spec PyProof.Rows L2
end Dl
end
section
set_option maxHeartbeats 4000000
namespace SrtO
open PySem PyProof.Rows Srt
section
variable {prog : Program} {w : World} {A : Around} {E : Value → Shared → Prop} {s : Shared}
/-- sorted(t), t a tuple: the new list is the last object -/
theorem sorted_of_tup {l : Addr} {o : Obj} {n : Nat} {vs : List Value} {ltv : Value → Value → Bool} {Q : Value → Shared → Prop} (O : Swo ltv) (ho : s.heap.get? l = some o) (hc : o.cls = .type "tuple") (hd : o.data = .seq vs.toArray n) (hz : vs.length ≤ sizeLine)
    (hS : 2 ≤ vs.length → ∀ (B : Around) (s' : Shared) (a : Addr), SortableO prog w B s' a vs ltv)
    (h : ∀ (g : Heap) (out : List Value), (∀ b u, s.heap.get? b = some u → g.get? b = some u) → Srtd ltv out → Stb ltv out vs → Q (.ref g.objs.size) { s with heap := sortedHeap (g.push (seqObj "list" vs.toArray 0)) g.objs.size vs out.toArray }) :
    wpAny (model prog w) A (call (.builtin "sorted") [.ref l]) Q E s := by
  refine Calls.call_function_entry kind_sorted plain_sorted entry_sorted (args_sorted1 _) ?_
  unfold Builtin.«sorted»
  refine wpAny_bind (m := checkCount "sorted" 1 1 _) (wpAny_pure (wpAny_bind (wpAny_collect_seq l (.inr rfl) ho hc hd (fun g keep => ?_) (by rw [List.size_toArray]; exact hz))))
  have e : vs.toArray.toList = vs := by simp
  rw [e]
  refine wpAny_bind (wpAny_newList ?_ hz)
  have at_ : (g.push (seqObj "list" vs.toArray 0)).get? g.objs.size = some (seqObj "list" vs.toArray 0) := Heap.get?_push_size _ rfl
  refine wpAny_bind (wpAny_holding (wpAny_call_entry slot_list_sort ⟨_, at_, rfl⟩ entry_list_sort (list_sort_ord O at_ hz (fun h2 => hS h2 _ _ _) fun out hs hb => ⟨_, rfl, wpAny_pure ⟨_, rfl, h g out keep hs hb⟩⟩) (args_list_sort _)))
end
end SrtO
namespace Dl
open PySem PySem.Spec PyProof.Rows L2
/-- sorted of a tuple of ints -/
def rSortedU (K : PySem.W.Frag) : List V → Hp → VK → Prop := fun vs H Q => ∃ (a : Addr) (ns : List Int), vs = [V.ref a] ∧ SqT K H a (ns.map V.int) ∧
  ∀ (ns' : List Int) (p : Addr), ns'.Perm ns → ns'.Pairwise (· ≤ ·) → H p = none → Q (.ref p) (upd H p (.lst (ns'.map V.int)))
theorem cr_sortedU {X : Cx} : CallR X (.builtin "sorted") (rSortedU X.K) := by
  intro pins s σ H vs us Q I r h
  obtain ⟨a, ns, rfl, hs, q⟩ := h
  obtain ⟨its, rv, ⟨o, ho, hc, n, hd⟩, hz⟩ := I.tuple hs
  rw [Vals.ref1 r]
  have hi := rv.ints
  refine SrtO.sorted_of_tup SrtO.swo_int ho hc hd (by rw [← rv.length]; exact hz) (fun h2 B s' a' => SrtO.ints_sortable hi h2) fun g out keep h1 h2 => ?_
  obtain ⟨k1, k2, k3⟩ := SrtO.ints_out hi h1 h2
  have at_ : (g.push (seqObj "list" its.toArray 0)).get? g.objs.size = some (seqObj "list" its.toArray 0) := Heap.get?_push_size _ rfl
  obtain ⟨ep, he⟩ := PyProof.Rows.sortedHeap_at (out := out.toArray) at_
  have hlen : ((out.map SrtO.iv).map V.int).length ≤ sizeLine := by
    rw [List.length_map, k2.length_eq]
    rw [List.length_map] at hz
    exact hz
  have I2 : Inv X pins σ H { s with heap := g, toks := s.toks } := I.kept keep
  refine ⟨.ref _, upd H g.objs.size (.lst ((out.map SrtO.iv).map V.int)), I2.laid (t' := s.toks) (fun b u hu => ?_) (Nat.le_refl _) ⟨hlen, out, ep, vals_of_ints k1, he⟩, rfl, q _ _ k2 k3 (I2.hok.fresh (Nat.le_refl _))⟩
  have lt : b < g.objs.size := Heap.lt_size hu
  rw [PyProof.Rows.sortedHeap_old (Nat.ne_of_lt lt) (by rw [Heap.size_push]; exact Nat.lt_succ_of_lt lt)]
  exact Heap.get?_push_of_some _ hu
theorem fit_sortedU {K : PySem.W.Frag} : FitC K (rSortedU K) (fun Γ os Kt => ∃ is : List Int, (match os with | [o] => vw Γ o = some (.tuple (is.map .int)) | _ => False) ∧ ∀ js : List Int, js.Perm is → js.Pairwise (· ≤ ·) → Kt (.own (js.map .int)) Γ) := fun G0 Γ T F σ H vs os Kt Q hl R1 h q => by
  obtain ⟨is, h1, h2⟩ := h
  split at h1
  · rename_i o
    match vs, hl with
    | [v], _ =>
      have R2 : Rel K G0 ((v, o) :: T) F σ H Γ := R1
      obtain ⟨a, us, rfl, hq, hd⟩ := dq_seq (R2.view h1) rfl
      obtain rfl := intsV hd
      refine ⟨a, is, rfl, hq, fun js p j1 j2 hp => q _ Γ _ _ (h2 js j1 j2) ?_⟩
      have R3 : Rel K G0 T (fzs (js.map V.int) (js.map PyData.int) ++ F) σ H Γ := fit_sorted.ints_F R2.drop js
      exact Rel.newL (M := []) R3 (by rw [List.length_map, List.length_map]) hp
  · exact h1.elim
where
  intsV {K : PySem.W.Frag} {H : Hp} : ∀ {us : List V} {is : List Int}, DqAll K H us (is.map PyData.int) → us = is.map V.int
    | _, [], h => by cases h; rfl
    | _, i :: is, h => by
      cases h with
      | cons a b =>
        cases a
        rw [intsV b]
        rfl
end Dl
end
section
set_option maxHeartbeats 4000000
namespace Dl
open PySem PySem.Spec PyProof.Rows L2
end Dl
end
section
set_option maxHeartbeats 4000000
namespace Dl
open PySem PySem.Spec PyProof.Rows L2
section
variable {X : Cx} {W : WX} {tg iter : Expr} {body : List Stmt} {τi : TId} {γ : TGd} {w1 : List Nat} {tb : TSx} {pos : Pos}
theorem XRel.dropF {K : PySem.W.Frag} {G0 H : Hp} {S F : Ent} {σ : Sl} {Γ : Gm} {d : Option Addr} : ∀ {o : Option (Str × PyData)}, XRel K G0 (S ++ F) σ H Γ o d → XRel K G0 F σ H Γ o d
  | none, ⟨h1, h2⟩ => ⟨h1, h2.dropF⟩
  | some (f, p), ⟨dx, h1, h2⟩ => ⟨dx, h1, h2.dropF⟩
end
end Dl
end
section
set_option maxHeartbeats 4000000
namespace Dl
open PySem PySem.Spec PyProof.Rows L2
end Dl
end
section
set_option maxHeartbeats 4000000
namespace Dl
open PySem PySem.Spec PyProof.Rows L2
end Dl
end
section
set_option maxHeartbeats 4000000
namespace Dl
open PySem PySem.Spec PyProof.Rows L2
section
variable {K : PySem.W.Frag} {G0 G H : Hp} {T F L : Ent} {σ : Sl} {Γ : Gm} {i : Nat} {v u : V} {o : O} {os : List O}
theorem R.olApp (r : R K G0 H ((v, .ol os) :: (u, o) :: L)) : ∃ p vs, v = .ref p ∧ H p = some (.lst vs) ∧ vs.length = os.length ∧ R K G0 (upd H p (.lst (vs ++ [u]))) ((v, .ol (os ++ [o])) :: L) := by
  obtain ⟨G, f, g, s0, s1, h1, h2, nd, hn⟩ := R.cons_iff.mp r
  unfold dn at h1
  obtain ⟨p, vs, fq, rfl, rfl, h3, h4⟩ := h1
  simp only [tO, tV, List.cons_append, List.map_cons] at h2
  unfold dnAll at h2
  obtain ⟨u', vr, f2, g2, e, rfl, h5, h6⟩ := h2
  obtain ⟨rfl, rfl⟩ := List.cons.inj e
  have hl : vs.length = os.length := dnLen h4
  have gp : G p = none := hn p (by simp)
  have hp : ∀ a ∈ fq ++ (f2 ++ g2), a ≠ p := fun a ha z => (List.nodup_cons.mp nd).1 (z ▸ ha)
  refine ⟨p, vs, rfl, h3, hl, R.cons_iff.mpr ⟨G, p :: (fq ++ f2), g2, s0, fun b x k => ?_, ?_, dnAll_keep (Same.refl G) _ _ g2 h6 fun a ha => upd_ne (hp a (by simp [ha])), ?_, fun a ha => hn a ?_⟩⟩
  · rw [upd_ne (ne_of_none k gp)]
    exact s1 b x k
  · unfold dn
    refine ⟨p, _, fq ++ f2, rfl, rfl, upd_same, ?_⟩
    refine dnAll_app (dnAll_keep (Same.refl G) _ _ fq h4 fun a ha => upd_ne (hp a (by simp [ha]))) ?_
    unfold dnAll
    refine ⟨u, [], f2, [], rfl, (List.append_nil _).symm, dn_keep (Same.refl G) o u f2 h5 fun a ha => upd_ne (hp a (by simp [ha])), ?_⟩
    unfold dnAll
    exact ⟨rfl, rfl⟩
  · have e : (p :: (fq ++ f2)) ++ g2 = (p :: fq) ++ (f2 ++ g2) := by simp
    rw [e]
    exact nd
  · have e : (p :: (fq ++ f2)) ++ g2 = (p :: fq) ++ (f2 ++ g2) := by simp
    rw [← e]
    exact ha
where
  dnLen {K : PySem.W.Frag} {G H : Hp} : ∀ {os : List O} {vs : List V} {fp : List Addr}, dnAll K G H os vs fp → vs.length = os.length
    | [], vs, fp, h => by
      unfold dnAll at h
      rw [h.1]
      rfl
    | o :: os, vs, fp, h => by
      unfold dnAll at h
      obtain ⟨v, vr, f, g, rfl, _, _, h⟩ := h
      exact congrArg (· + 1) (dnLen h)
theorem Rel.olApp (r : Rel K G0 ((u, o) :: T) F σ H Γ) (g : get Γ i = some (.ol os)) : ∃ p vs, σ[i]? = some (some (.ref p)) ∧ H p = some (.lst vs) ∧ vs.length = os.length ∧ Rel K G0 T F σ (upd H p (.lst (vs ++ [u]))) (put Γ i (some (.ol (os ++ [o])))) := by
  obtain ⟨v, h1, h2, h3⟩ := r.out g
  have r2 : R K G0 H ((v, .ol os) :: (u, o) :: (T ++ (ents σ (put Γ i none) ++ F))) := h2
  obtain ⟨p, vs, rfl, e1, e2, e3⟩ := r2.olApp
  exact ⟨p, vs, h1, e1, e2, Rel.back h3 r.al.tail (get_lt g) h1 e3⟩
end
section
variable {X : Cx} {τs : TAd}
def isOlA (o : Option O) : Prop := match o with
  | some (.ol _) => True
  | _ => False
theorem isOlA_use {o : Option O} (h : isOlA o) : ∃ os, o = some (.ol os) := by
  unfold isOlA at h
  split at h
  · exact ⟨_, rfl⟩
  · exact h.elim
def rhoAppO (i : Nat) (Γ : Gm) (ps : List O) (Kt : O → Gm → Prop) : Prop := match ps with
  | [o] => mov Γ o fun o1 Γ2 => (match get Γ2 i with
    | some (.ol os) => os.length < sizeLine ∧ Kt (.fz .none) (put Γ2 i (some (.ol (os ++ [o1]))))
    | _ => False)
  | _ => False
def dMethO (i : Nat) (t : TAd) : TEd := fun Γ Kt => isOlA (get Γ i) ∧ t Γ fun os Γ1 => rhoAppO i Γ1 os Kt
theorem de_appendO (i : Nat) {x : Str} {ap cp p0 : Pos} {e : Expr} (hv : PE X (.Name x p0) (tVar i)) (ha : DA X [e] τs) (h1 : attributeBase (.Name x p0) "append" X.env (eval (.Name x p0) X.env) = eval (.Name x p0) X.env := by rfl) (h3 : (ap.endLine == cp.line) = true := by rfl)
    (h2 : ((backTo cp (starEach [e] X.env)).all (fun z => !z.1) && (backToKw cp (keywordEach [] X.env)).all (fun z => z.1.isSome) && decide (([e].length + ([] : List Keyword).length + if ([] : List Keyword).isEmpty = true then 0 else 1) < 30)) = true := by rfl)
    (h4 : starEach [e] X.env = (false, eval e X.env) :: starEach [] X.env := by rfl) : DE X (.Call (.Attribute (.Name x p0) "append" ap) [e] [] cp) (dMethO i τs) :=
  peI (pe_bm PySem.F.plainAttrs_list PySem.F.slot_list_append PySem.F.type_list_append mt_append hv ha h1 h2 h3 h4) fun σ H Q ⟨G0, Γ, T, F, Kt, R1, ⟨k0, k⟩, q⟩ => by
    obtain ⟨os, g⟩ := isOlA_use k0
    obtain ⟨v, h1, h2, _⟩ := R1.out g
    obtain ⟨G, f, g3, s0, s1, h5, _, _, _⟩ := R.cons_iff.mp h2
    unfold dn at h5
    obtain ⟨a, ws, fq, rfl, rfl, e1, _⟩ := h5
    refine ⟨_, h1, .inl ⟨rfl, ws, SqL.of e1⟩, G0, Γ, T, F, _, R1, k, fun ps Γ1 vs H1 k1 hl R2 => ?_⟩
    unfold rhoAppO at k1
    match ps, vs, hl with
    | [o], [u], _ =>
      have R2 : Rel X.K G0 ((u, o) :: T) F σ H1 Γ1 := R2
      obtain ⟨o1, Γ2, k2, _, R3⟩ := R2.moved k1
      split at k2
      · rename_i os2 g2
        obtain ⟨p, vs, f1, f2, f3, f4⟩ := R3.olApp g2
        rw [h1] at f1
        cases f1
        exact ⟨a, vs, u, rfl, rfl, f2, by rw [f3]; exact k2.1, q _ _ _ _ k2.2 (Rel.push f4 fun _ => .non)⟩
      · exact k2.elim
    | [], _, _ => exact k1.elim
    | _ :: _ :: _, _, _ => exact k1.elim
end
end Dl
end
section
set_option maxHeartbeats 4000000
namespace Dl
open PySem PySem.Spec PyProof.Rows L2
end Dl
end
section
namespace Kx
open PySem PySem.Spec PyProof.Rows L2 Dl
/-- the promise of a draw -/
def phTake : Nat → List PyData → (O → Nat → Prop) → Prop := fun m ds Kt => ∃ span : Int, ds = [.int span] ∧ 0 < span ∧ span < 1073741824 ∧ m < 2 ^ 60 ∧ ∀ r : Int, 0 ≤ r → r < span → Kt (.fz (.int r)) (m + 1)
abbrev Lin := List (Str × Int)
abbrev z0 : Str × Int := ("", 0)
def Pl (p : PyData) (x : Str × Int) : Prop := ∃ k, itemsOf p = some (k, [.str x.1, .int x.2])
def Ln (d : PyData) (L : Lin) : Prop := ∃ k ps, itemsOf d = some (k, ps) ∧ ps.length = L.length ∧ ∀ i, i < L.length → Pl (ps.getD i .none) (L.getD i z0)
def caps (L : Lin) : Int := (L.map (·.2)).sum
theorem caps_take {L : Lin} {i : Nat} (h : i < L.length) : caps (L.take (i + 1)) = caps (L.take i) + (L.getD i z0).2 := by
  unfold caps
  rw [take_at z0 h, List.map_append, List.sum_append]
  simp
/-- what joins: position at, at + 1 in place i -/
def lowT (L : Lin) (m : Int) (i : Nat) : Int := if m - (caps L - caps (L.take i)) > 0 then m - (caps L - caps (L.take i)) else 0
def highT (L : Lin) (i : Nat) : Int := caps (L.take (i + 1))
def mixT (L : Lin) (i : Nat) : Bool := decide ((L.getD i z0).1 = "yard") && decide ((L.getD i z0).2 ≥ 2)
def mixs (L : Lin) (n : Nat) : List Nat := (List.range n).filter (mixT L)
def joinT (L : Lin) (m : Int) (at' : Nat) : Bool := (mixs L L.length).any fun i => decide (lowT L m i ≤ (at' : Int)) && decide ((at' : Int) + 2 ≤ highT L i)
def jointsT (L : Lin) (m : Nat) : List Nat := (List.range (m - 1)).filter (joinT L m)
def spanD (L : Lin) (m : Int) (i : Nat) : PyData := .tuple [.int (lowT L m i), .int (highT L i)]
def kindsOk (L : Lin) : Prop := ∀ i, i < L.length → ((L.getD i z0).1 = "yard" ∨ (L.getD i z0).1 = "track") ∧ 1 ≤ (L.getD i z0).2
abbrev natsD (l : List Nat) : List PyData := l.map fun n : Nat => PyData.int (n : Int)
def phCap : List PyData → (O → Prop) → Prop := fun ds Kt => ∃ d L, ds = [d] ∧ Ln d L ∧ L.length ≤ 40 ∧ Kt (.fz (.int (caps L)))
def phSpans : List PyData → (O → Prop) → Prop := fun ds Kt => ∃ d L m, ds = [d, .int m] ∧ Ln d L ∧ L.length ≤ 40 ∧ Kt (.own ((List.range L.length).map (spanD L m)))
def phMix : List PyData → (O → Prop) → Prop := fun ds Kt => ∃ d L m, ds = [d, .int m] ∧ Ln d L ∧ L.length ≤ 40 ∧ kindsOk L ∧ Kt (.own ((mixs L L.length).map (spanD L m)))
def phJoints : List PyData → (O → Prop) → Prop := fun ds Kt => ∃ (d : PyData) (L : Lin) (m : Nat), ds = [d, .int m] ∧ Ln d L ∧ L.length ≤ 40 ∧ kindsOk L ∧ m ≤ 40 ∧ Kt (.own (natsD (jointsT L m)))
/-- a standing: places of trains -/
abbrev Std := List (List Int)
def St (d : PyData) (S : Std) : Prop := ∃ k ps, itemsOf d = some (k, ps) ∧ ps.length = S.length ∧ ∀ i, i < S.length → ∃ k', itemsOf (ps.getD i .none) = some (k', (S.getD i []).map .int)
def phOrder : List PyData → (O → Prop) → Prop := fun ds Kt => ∃ d e S, ds = [d, e] ∧ St e S ∧ S.flatten.length ≤ 40 ∧ Kt (.own (S.flatten.map .int))
end Kx
namespace Kx
open PySem PySem.Spec PyProof.Rows L2 Dl
theorem lt_size {n : Nat} (h : n < 1000) : n < sizeLine := by rw [sizeLine_eq]; omega
theorem le_size {n : Nat} (h : n < 1000) : n ≤ sizeLine := Nat.le_of_lt (lt_size h)
end Kx
namespace Kx
open PySem PySem.Spec PyProof.Rows L2 Dl
theorem mixs_at (L : Lin) (i : Nat) : mixs L (i + 1) = mixs L i ++ (if mixT L i then [i] else []) := by
  unfold mixs
  rw [range_at, List.filter_append, List.filter_cons]
  split <;> simp_all
theorem mixs_len (L : Lin) (i : Nat) : (mixs L i).length ≤ i := by
  unfold mixs
  exact Nat.le_trans (List.length_filter_le _ _) (by rw [List.length_range]; exact Nat.le_refl _)
end Kx
namespace Kx
open PySem PySem.Spec PyProof.Rows L2 Dl
theorem ls1 : (1 ≤ sizeLine) = True := eq_true (by decide)
theorem ls2 : (2 ≤ sizeLine) = True := eq_true (by decide)
theorem ls3 : (3 ≤ sizeLine) = True := eq_true (by decide)
theorem ls4 : (4 ≤ sizeLine) = True := eq_true (by decide)
end Kx
namespace Kx
open PySem PySem.Spec PyProof.Rows L2 Dl
theorem shaped_kind {x : Str} (h : x = "yard" ∨ x = "track") : SeqAt.shaped (.str x) = true := by
  rcases h with rfl | rfl <;> decide +kernel
end Kx
namespace Kx
open PySem PySem.Spec PyProof.Rows L2 Dl
theorem shY : SeqAt.shaped (.str "yard") = true := by decide +kernel
def joinB (L : Lin) (m : Int) (at' : Nat) (i : Nat) : Bool := decide (lowT L m i ≤ (at' : Int)) && decide ((at' : Int) + 2 ≤ highT L i)
theorem joinT_eq (L : Lin) (m : Int) (a : Nat) : joinT L m a = (((mixs L L.length).map (joinB L m a)).any id) := by
  rw [List.any_map]
  rfl
theorem filt_at {p : Nat → Bool} (i : Nat) : (List.range (i + 1)).filter p = (List.range i).filter p ++ (if p i then [i] else []) := by
  rw [range_at, List.filter_append, List.filter_cons]
  split <;> simp_all
end Kx
namespace Kx
open PySem PySem.Spec PyProof.Rows L2 Dl
theorem getD_map_int {l : List Int} {j : Nat} (h : j < l.length) : (l.map PyData.int).getD j .none = .int (l.getD j 0) := by
  rw [List.getD_eq_getElem?_getD, List.getElem?_map, List.getD_eq_getElem?_getD, List.getElem?_eq_getElem h]
  rfl
theorem flat_len {S : Std} {i : Nat} (h : i < S.length) (j : Nat) : ((S.take i).flatten ++ (S.getD i []).take j).length ≤ S.flatten.length := by
  have e : S = S.take i ++ (S.getD i [] :: S.drop (i + 1)) := by
    rw [List.getD_eq_getElem?_getD, List.getElem?_eq_getElem h]
    show S = S.take i ++ (S[i] :: S.drop (i + 1))
    rw [List.getElem_cons_drop h, List.take_append_drop]
  have e2 : S.flatten.length = (S.take i).flatten.length + ((S.getD i []).length + (S.drop (i + 1)).flatten.length) := by
    conv => lhs; rw [e]
    rw [List.flatten_append, List.length_append, List.flatten_cons, List.length_append]
  rw [List.length_append, List.length_take, e2]
  omega
theorem flat_at {S : Std} {i : Nat} (h : i < S.length) : (S.take (i + 1)).flatten = (S.take i).flatten ++ S.getD i [] := by
  rw [take_at [] h, List.flatten_append]
  simp
end Kx
namespace Kx
open PySem PySem.Spec PyProof.Rows L2 Dl
theorem lt_size5 {n : Nat} (h : n < 100000) : n < sizeLine := by rw [sizeLine_eq]; omega
abbrev placeD (x : Str × Int) : PyData := .tuple [.str x.1, .int x.2]
abbrev lineD (L : Lin) : PyData := .tuple (L.map placeD)
theorem getD_map {α : Type} {f : α → PyData} {l : List α} {j : Nat} (d : α) (h : j < l.length) : (l.map f).getD j .none = f (l.getD j d) := by
  rw [List.getD_eq_getElem?_getD, List.getElem?_map, List.getD_eq_getElem?_getD, List.getElem?_eq_getElem h]
  rfl
theorem ln_line (L : Lin) : Ln (lineD L) L := ⟨false, L.map placeD, rfl, by rw [List.length_map], fun i h => by
  rw [getD_map z0 h]
  exact ⟨false, rfl⟩⟩
def sizesLe (L : Lin) (t : Int) : Prop := ∀ i, i < L.length → (L.getD i z0).2 ≤ t
def phCell : List Int → List PyData → (O → Prop) → Prop := fun _ ds Kt => ∃ k : Int, ds = [.int k] ∧ 0 ≤ k ∧ ∀ v : Int, Kt (.fz (.int v))
def phBox : List Int → List PyData → (O → Prop) → Prop := fun _ ds Kt => ∃ k : Int, ds = [.int k] ∧ 0 ≤ k ∧ k < 1000 ∧ ∀ a b : Int, 0 ≤ a → 0 ≤ b → b < 2 ^ 62 → Kt (.own [.int a, .int b, .int 0])
def phOf : Nat → List PyData → (O → Nat → Prop) → Prop := fun m ds Kt => ∃ (d : PyData) (k : Bool) (xs : List PyData), ds = [d] ∧ itemsOf d = some (k, xs) ∧ 0 < xs.length ∧ xs.length < 1073741824 ∧ m < 2 ^ 60 ∧ ∀ i : Nat, i < xs.length → Kt (.fz (xs.getD i .none)) (m + 1)
def phStrewn : Nat → List PyData → (O → Nat → Prop) → Prop := fun m ds Kt => ∃ (d : PyData) (k : Bool) (xs : List Int), ds = [d] ∧ itemsOf d = some (k, xs.map .int) ∧ xs.length < 500 ∧ m < 2 ^ 59 ∧ ∀ ys : List Int, ys.Perm xs → Kt (.own (ys.map .int)) (m + xs.length)
def phIds : Nat → List PyData → (O → Nat → Prop) → Prop := fun m ds Kt => ∃ c : Nat, ds = [.int c] ∧ c < 400 ∧ m < 2 ^ 58 ∧
  ∀ (r : List Int) (m' : Nat), r.length = c → r.Nodup → (∀ x ∈ r, 0 ≤ x ∧ x < 2 ^ 40) → m' ≤ m + 2 + 2 * c → Kt (.own (r.map .int)) m'
end Kx
namespace Kx
open PySem PySem.Spec PyProof.Rows L2 Dl
theorem canLay_ints : ∀ l : List Int, PyData.canLayAll0 (l.map .int) = true
  | [] => by simp [PyData.canLayAll0]
  | x :: l => by
    have := canLay_ints l
    simp [PyData.canLayAll0, PyData.canLay0, this]
theorem depth_ints : ∀ l : List Int, PyData.depthAll (l.map .int) ≤ 1
  | [] => by simp [PyData.depthAll]
  | x :: l => by
    have := depth_ints l
    simp [PyData.depthAll, PyData.depth]
    omega
theorem shaped_ints (l : List Int) : SeqAt.shaped (.list (l.map .int)) = true := by
  have h1 := canLay_ints l
  have h2 := depth_ints l
  simp [SeqAt.shaped, PyData.canLay0, PyData.depth, h1]
  omega
theorem shaped_nil : SeqAt.shaped (.list []) = true := by decide +kernel
theorem eqv_nil (l : List PyData) : PyData.eqv (.list l) (.list []) = decide (l = []) := by
  cases l with
  | nil => simp [PyData.eqv, PyData.eqvAll]
  | cons x l => simp [PyData.eqv, PyData.eqvAll]
end Kx
namespace Kx
theorem perm_erase {α : Type} : ∀ {l : List α} {i : Nat} (h : i < l.length), ([l[i]] ++ l.eraseIdx i).Perm l
  | x :: l, 0, _ => .refl _
  | x :: l, i + 1, h => by
    have := perm_erase (l := l) (i := i) (by simpa using h)
    show ([l[i]'(by simpa using h)] ++ (x :: l.eraseIdx i)).Perm (x :: l)
    exact List.perm_middle.trans (List.Perm.cons _ this)
end Kx
namespace Kx
theorem zl1 : ((0 : Nat) < 1) = True := eq_true (by decide)
theorem zl2 : ((0 : Nat) < 2) = True := eq_true (by decide)
theorem zl3 : ((0 : Nat) < 3) = True := eq_true (by decide)
theorem zl4 : ((0 : Nat) < 4) = True := eq_true (by decide)
theorem zl5 : ((0 : Nat) < 5) = True := eq_true (by decide)
theorem zl6 : ((0 : Nat) < 6) = True := eq_true (by decide)
theorem zl7 : ((0 : Nat) < 7) = True := eq_true (by decide)
theorem zl8 : ((0 : Nat) < 8) = True := eq_true (by decide)
theorem zl9 : ((0 : Nat) < 9) = True := eq_true (by decide)
theorem zl10 : ((0 : Nat) < 10) = True := eq_true (by decide)
theorem zl11 : ((0 : Nat) < 11) = True := eq_true (by decide)
end Kx
namespace Kx
theorem map_erase {α β : Type} (f : α → β) : ∀ (l : List α) (i : Nat), (l.map f).eraseIdx i = (l.eraseIdx i).map f
  | [], _ => rfl
  | _ :: _, 0 => rfl
  | x :: l, i + 1 => congrArg (f x :: ·) (map_erase f l i)
end Kx
namespace Kx
open PySem PySem.Spec PyProof.Rows L2 Dl
theorem getD_snoc {α : Type} {l : List α} {x d : α} {i : Nat} (h : i < (l ++ [x]).length) : (i < l.length ∧ (l ++ [x]).getD i d = l.getD i d) ∨ (i = l.length ∧ (l ++ [x]).getD i d = x) := by
  rw [List.length_append, List.length_singleton] at h
  by_cases q : i < l.length
  · left
    refine ⟨q, ?_⟩
    rw [List.getD_eq_getElem?_getD, List.getD_eq_getElem?_getD, List.getElem?_append_left q]
  · right
    have e : i = l.length := by omega
    subst e
    refine ⟨rfl, ?_⟩
    rw [List.getD_eq_getElem?_getD, List.getElem?_append_right (Nat.le_refl _), Nat.sub_self]
    rfl
theorem kindsOk_snoc {L : Lin} {k : Str} {n : Int} (h : kindsOk L) (hk : k = "yard" ∨ k = "track") (hn : 1 ≤ n) : kindsOk (L ++ [(k, n)]) := fun i hi => by
  rcases getD_snoc (d := z0) hi with ⟨q, e⟩ | ⟨q, e⟩
  · rw [e]; exact h i q
  · rw [e]; exact ⟨hk, hn⟩
theorem sizesLe_snoc {L : Lin} {k : Str} {n t : Int} (h : sizesLe L t) (hn : n ≤ t) : sizesLe (L ++ [(k, n)]) t := fun i hi => by
  rcases getD_snoc (d := z0) hi with ⟨q, e⟩ | ⟨q, e⟩
  · rw [e]; exact h i q
  · rw [e]; exact hn
theorem four_of {i : Nat} {a b c d : Int} (h : i < [PyData.int a, .int b, .int c, .int d].length) : ∃ s, [PyData.int a, .int b, .int c, .int d].getD i .none = .int s ∧ (s = a ∨ s = b ∨ s = c ∨ s = d) := by
  match i, h with
  | 0, _ => exact ⟨a, rfl, .inl rfl⟩
  | 1, _ => exact ⟨b, rfl, .inr (.inl rfl)⟩
  | 2, _ => exact ⟨c, rfl, .inr (.inr (.inl rfl))⟩
  | 3, _ => exact ⟨d, rfl, .inr (.inr (.inr rfl))⟩
  | n + 4, h => exact absurd h (by simp)
end Kx
namespace Kx
open PySem PySem.Spec PyProof.Rows L2 Dl
theorem leS {n : Nat} (h : Nat.ble (n + 1) 1000 = true) : n ≤ sizeLine := le_size (Nat.le_of_ble_eq_true h)
theorem ltN {n k : Nat} (h : Nat.ble (n + 1) k = true) : n < k := Nat.le_of_ble_eq_true h
end Kx
namespace Kx
open PySem PySem.Spec PyProof.Rows L2 Dl
def fits (L : Lin) (N : List Int) : Prop := N.length = L.length ∧ ∀ i, i < L.length → 0 ≤ N.getD i 0 ∧ N.getD i 0 ≤ (L.getD i z0).2
def phNumbers : Nat → List PyData → (O → Nat → Prop) → Prop := fun m ds Kt => ∃ (d : PyData) (L : Lin) (c : Nat), ds = [d, .int c] ∧ Ln d L ∧ L.length ≤ 40 ∧ kindsOk L ∧ (c : Int) ≤ caps L ∧ c < 400 ∧ m < 2 ^ 58 ∧
  ∀ N : List Int, fits L N → N.sum = c → Kt (.own (N.map .int)) (m + c)
theorem sum_set : ∀ {N : List Int} {k : Nat} {v : Int}, k < N.length → (N.set k v).sum = N.sum - N.getD k 0 + v
  | x :: N, 0, v, _ => by
    show (v :: N).sum = _
    rw [List.sum_cons, List.sum_cons]
    show v + N.sum = x + N.sum - x + v
    omega
  | x :: N, k + 1, v, h => by
    have := sum_set (N := N) (k := k) (v := v) (by simpa using h)
    show (x :: N.set k v).sum = _
    rw [List.sum_cons, List.sum_cons, this]
    show _ = x + N.sum - N.getD k 0 + v
    omega
theorem getD_set {N : List Int} {k i : Nat} {v : Int} (h : k < N.length) : (N.set k v).getD i 0 = if i = k then v else N.getD i 0 := by
  rw [List.getD_eq_getElem?_getD, List.getD_eq_getElem?_getD, List.getElem?_set]
  by_cases q : i = k
  · subst q
    rw [if_pos rfl, if_pos rfl, if_pos h]
    rfl
  · rw [if_neg (fun z => q z.symm), if_neg q]
theorem sum_le : ∀ {L : Lin} {N : List Int}, N.length = L.length → (∀ i, i < L.length → (L.getD i z0).2 ≤ N.getD i 0) → caps L ≤ N.sum
  | [], [], _, _ => Int.le_refl _
  | x :: L, n :: N, e, h => by
    have h0 := h 0 (by simp)
    have := sum_le (L := L) (N := N) (by simpa using e) fun i hi => h (i + 1) (by simpa using hi)
    unfold caps at this ⊢
    rw [List.map_cons, List.sum_cons, List.sum_cons]
    have h0 : x.2 ≤ n := h0
    omega
  | [], _ :: _, e, _ => by simp at e
  | _ :: _, [], e, _ => by simp at e
def roomT (L : Lin) (N : List Int) (k : Nat) : Bool := decide (N.getD k 0 < (L.getD k z0).2)
end Kx
namespace Kx
open PySem PySem.Spec PyProof.Rows L2 Dl
theorem rep_flat (n : Nat) : (List.replicate n [PyData.int 0]).flatten = (List.replicate n (0 : Int)).map .int := by
  induction n with
  | zero => rfl
  | succ n ih =>
    rw [List.replicate_succ, List.replicate_succ, List.flatten_cons, ih]
    rfl
theorem fits_zero {L : Lin} (h : kindsOk L) : fits L (List.replicate L.length 0) := ⟨List.length_replicate, fun i hi => by
  rw [List.getD_eq_getElem?_getD, List.getElem?_replicate, if_pos hi]
  have := (h i hi).2
  show (0 : Int) ≤ 0 ∧ (0 : Int) ≤ _
  omega⟩
theorem sum_zero (n : Nat) : (List.replicate n (0 : Int)).sum = 0 := by
  induction n with
  | zero => rfl
  | succ n ih => rw [List.replicate_succ, List.sum_cons, ih]; rfl
theorem fits_set {L : Lin} {N : List Int} {k : Nat} (h : fits L N) (hk : k < L.length) (hr : roomT L N k = true) : fits L (N.set k (N.getD k 0 + 1)) := ⟨by rw [List.length_set]; exact h.1, fun i hi => by
  rw [getD_set (by rw [h.1]; exact hk)]
  have h1 := h.2 i hi
  split
  · rename_i e
    subst e
    have := of_decide_eq_true hr
    omega
  · exact h1⟩
theorem room_ex {L : Lin} {N : List Int} (h : fits L N) (hs : N.sum < caps L) : 0 < ((List.range L.length).filter (roomT L N)).length := by
  refine List.length_pos_iff.mpr fun e => ?_
  have : caps L ≤ N.sum := sum_le h.1 fun i hi => by
    by_cases q : roomT L N i = true
    · have m : i ∈ (List.range L.length).filter (roomT L N) := List.mem_filter.mpr ⟨List.mem_range.mpr hi, q⟩
      rw [e] at m
      simp at m
    · have q : ¬ (N.getD i 0 < (L.getD i z0).2) := fun z => q (decide_eq_true z)
      omega
  omega
end Kx
namespace Kx
theorem map_set' {α β : Type} (f : α → β) : ∀ (l : List α) (i : Nat) (x : α), (l.map f).set i (f x) = (l.set i x).map f
  | [], _, _ => rfl
  | _ :: _, 0, _ => rfl
  | y :: l, i + 1, x => congrArg (f y :: ·) (map_set' f l i x)
end Kx
namespace Kx
open PySem PySem.Spec PyProof.Rows L2 Dl
abbrev stdD (S : Std) : PyData := .tuple (S.map fun l => .tuple (l.map .int))
theorem st_std (S : Std) : St (stdD S) S := ⟨false, _, rfl, by rw [List.length_map], fun i h => by
  rw [getD_map [] h]
  exact ⟨false, rfl⟩⟩
theorem sum_take {N : List Int} {i : Nat} (h : i < N.length) : (N.take (i + 1)).sum = (N.take i).sum + N.getD i 0 := by
  rw [take_at 0 h, List.sum_append]
  simp
end Kx
namespace Kx
open PySem PySem.Spec PyProof.Rows L2 Dl
/-- plain data of depth at most n -/
inductive Deep : Nat → PyData → Prop
  | int (n : Nat) (i : Int) : Deep n (.int i)
  | bool (n : Nat) (b : Bool) : Deep n (.bool b)
  | str (n : Nat) (x : Str) : SeqAt.shaped (.str x) = true → Deep n (.str x)
  | none (n : Nat) : Deep n .none
  | list (n : Nat) (ds : List PyData) : ds.length < 100000 → (∀ d ∈ ds, Deep n d) → Deep (n + 1) (.list ds)
  | tuple (n : Nat) (ds : List PyData) : ds.length < 100000 → (∀ d ∈ ds, Deep n d) → Deep (n + 1) (.tuple ds)
mutual
def listed : PyData → PyData
  | .list ds => .list (listedAll ds)
  | .tuple ds => .list (listedAll ds)
  | d => d
def listedAll : List PyData → List PyData
  | [] => []
  | d :: ds => listed d :: listedAll ds
end
theorem listedAll_map : ∀ ds : List PyData, listedAll ds = ds.map listed
  | [] => by simp [listedAll]
  | d :: ds => by simp [listedAll, listedAll_map ds]
def phLists (n : Nat) : List PyData → (O → Prop) → Prop := fun ds Kt => ∃ d, ds = [d] ∧ Deep n d ∧ (∀ xs, listed d = .list xs → Kt (.own xs)) ∧ ((∀ xs, listed d ≠ .list xs) → Kt (.fz d))
def phSame (n : Nat) : List PyData → (O → Prop) → Prop := fun ds Kt => ∃ d, ds = [d, d] ∧ Deep n d ∧ Kt (.fz (.bool true))
end Kx
namespace Kx
open PySem PySem.Spec PyProof.Rows L2 Dl
theorem deep_noDict {n : Nat} {d : PyData} (h : Deep n d) : noDict d := by cases h <;> trivial
end Kx
namespace Kx
open PySem PySem.Spec PyProof.Rows L2 Dl
theorem listed_atom {d : PyData} (h : ∀ xs, listed d ≠ .list xs) : listed d = d := by
  cases d <;> simp [listed] at h ⊢
theorem getD_mem {ds : List PyData} {i : Nat} (h : i < ds.length) : ds.getD i .none ∈ ds := by
  rw [List.getD_eq_getElem?_getD, List.getElem?_eq_getElem h]
  exact List.getElem_mem h
theorem all_rep (n : Nat) : (List.replicate n true).all id = true := by
  induction n with
  | zero => rfl
  | succ n ih => rw [List.replicate_succ, List.all_cons, ih]; rfl
theorem rep_snoc {α : Type} (n : Nat) (x : α) : List.replicate n x ++ [x] = List.replicate (n + 1) x := by
  induction n with
  | zero => rfl
  | succ n ih => rw [List.replicate_succ, List.cons_append, ih]; rfl
end Kx
namespace Kx
open PySem PySem.Spec PyProof.Rows L2 Dl
def phLaw : List Int → List PyData → (O → Prop) → Prop := fun ns ds Kt => ds = [] ∧ ns.length ≤ 63 ∧ Kt (.fz (.bool true))
abbrev placeDL (x : Str × Int) : PyData := .list [.str x.1, .int x.2]
abbrev lineDL (L : Lin) : PyData := .list (L.map placeDL)
abbrev stdDL (S : Std) : PyData := .list (S.map fun l => .list (l.map .int))
theorem listed_line (L : Lin) : listed (lineD L) = lineDL L := by
  simp only [listed, listedAll_map, List.map_map]
  exact congrArg PyData.list (List.map_congr_left fun x _ => by simp [listed, listedAll_map])
theorem listed_ints (x : List Int) : listed (.tuple (x.map .int)) = .list (x.map .int) := by
  simp only [listed, listedAll_map, List.map_map]
  exact congrArg PyData.list (List.map_congr_left fun i _ => by simp [listed])
theorem listed_std (S : Std) : listed (stdD S) = stdDL S := by
  rw [listed, listedAll_map, List.map_map]
  exact congrArg PyData.list (List.map_congr_left fun x _ => listed_ints x)
theorem ln_lineL (L : Lin) : Ln (lineDL L) L := ⟨true, L.map placeDL, rfl, by rw [List.length_map], fun i h => by
  rw [getD_map z0 h]
  exact ⟨true, rfl⟩⟩
theorem st_stdL (S : Std) : St (stdDL S) S := ⟨true, _, rfl, by rw [List.length_map], fun i h => by
  rw [getD_map [] h]
  exact ⟨true, rfl⟩⟩
theorem deep_intsT (n : Nat) {l : List Int} (h : l.length < 100000) : Deep (n + 1) (.tuple (l.map .int)) := .tuple n _ (by rw [List.length_map]; exact h) fun d hd => by
  obtain ⟨i, _, rfl⟩ := List.mem_map.mp hd
  exact .int n i
theorem deep_nats (n : Nat) {l : List Nat} (h : l.length < 100000) : Deep (n + 1) (.list (natsD l)) := .list n _ (by rw [List.length_map]; exact h) fun d hd => by
  obtain ⟨i, _, rfl⟩ := List.mem_map.mp hd
  exact .int n i
theorem deep_two {n : Nat} {d : PyData} (h : Deep n d) : Deep (n + 1) (.list [d, d]) := .list n _ (by simp) fun e he => by
  simp at he
  subst he
  exact h
theorem deep_line {L : Lin} (h5 : L.length ≤ 40) (hK : kindsOk L) : Deep 2 (lineD L) := .tuple 1 _ (by rw [List.length_map]; omega) fun d hd => by
  obtain ⟨x, hx, rfl⟩ := List.mem_map.mp hd
  refine .tuple 0 _ (by simp) fun e he => ?_
  simp at he
  rcases he with rfl | rfl
  · obtain ⟨i, hi, e⟩ := List.getElem_of_mem hx
    refine .str 0 _ (shaped_kind ?_)
    have := (hK i hi).1
    rw [List.getD_eq_getElem?_getD, List.getElem?_eq_getElem hi] at this
    rw [← e]
    exact this
  · exact .int 0 _
theorem deep_std {S : Std} (h1 : S.length ≤ 40) (h2 : S.flatten.length ≤ 40) : Deep 2 (stdD S) := .tuple 1 _ (by rw [List.length_map]; omega) fun d hd => by
  obtain ⟨x, hx, rfl⟩ := List.mem_map.mp hd
  refine deep_intsT 0 ?_
  have := (List.sublist_flatten_of_mem hx).length_le
  omega
theorem caps_nonneg {L : Lin} (h : kindsOk L) : 0 ≤ caps L := by
  have := sum_le (L := L) (N := List.replicate L.length 0) (by simp)
  induction L with
  | nil => exact Int.le_refl _
  | cons x L ih =>
    have h0 := (h 0 (by simp)).2
    have h1 := ih (fun i hi => by simpa using h (i + 1) (by simpa using hi)) (sum_le (L := L) (N := List.replicate L.length 0) (by simp))
    unfold caps at h1 ⊢
    rw [List.map_cons, List.sum_cons]
    have h0 : 1 ≤ x.2 := h0
    omega
end Kx
end
section
set_option maxHeartbeats 1000000
namespace Kx
open PySem PySem.Spec PyProof.Rows L2 Dl
theorem sorted_uniq : ∀ {a b : List Int}, a.Perm b → a.Pairwise (· ≤ ·) → b.Pairwise (· ≤ ·) → a = b
  | [], b, h, _, _ => (List.nil_perm.mp h).symm
  | x :: a, [], h, _, _ => absurd h.length_eq (by simp)
  | x :: a, y :: b, h, ha, hb => by
    have ha' := List.pairwise_cons.mp ha
    have hb' := List.pairwise_cons.mp hb
    have e : x = y := by
      have h1 : x ∈ y :: b := h.mem_iff.mp (by simp)
      have h2 : y ∈ x :: a := h.mem_iff.mpr (by simp)
      rcases List.mem_cons.mp h1 with e | h1
      · exact e
      · rcases List.mem_cons.mp h2 with e | h2
        · exact e.symm
        · have := hb'.1 x h1
          have := ha'.1 y h2
          omega
    subst e
    rw [sorted_uniq ((List.perm_cons x).mp h) ha'.2 hb'.2]
def insI (x : Int) : List Int → List Int
  | [] => [x]
  | y :: l => if x ≤ y then x :: y :: l else y :: insI x l
def sortI : List Int → List Int
  | [] => []
  | x :: l => insI x (sortI l)
theorem insI_perm (x : Int) : ∀ l, (insI x l).Perm (x :: l)
  | [] => .refl _
  | y :: l => by
    unfold insI
    split
    · exact .refl _
    · exact ((insI_perm x l).cons y).trans (.swap _ _ _)
theorem insI_sorted (x : Int) : ∀ {l : List Int}, l.Pairwise (· ≤ ·) → (insI x l).Pairwise (· ≤ ·)
  | [], _ => List.pairwise_singleton _ _
  | y :: l, h => by
    have h' := List.pairwise_cons.mp h
    unfold insI
    split
    · rename_i q
      exact List.pairwise_cons.mpr ⟨fun z hz => by
        rcases List.mem_cons.mp hz with e | hz
        · omega
        · have := h'.1 z hz
          omega, h⟩
    · rename_i q
      refine List.pairwise_cons.mpr ⟨fun z hz => ?_, insI_sorted x h'.2⟩
      rcases List.mem_cons.mp ((insI_perm x l).mem_iff.mp hz) with e | hz
      · omega
      · exact h'.1 z hz
theorem sortI_perm : ∀ l, (sortI l).Perm l
  | [] => .refl _
  | x :: l => (insI_perm x _).trans ((sortI_perm l).cons x)
theorem sortI_sorted : ∀ l, (sortI l).Pairwise (· ≤ ·)
  | [] => .nil
  | x :: l => insI_sorted x (sortI_sorted l)
theorem sortI_eq {js is : List Int} (h : js.Perm is) (hs : js.Pairwise (· ≤ ·)) : js = sortI is := sorted_uniq (h.trans (sortI_perm is).symm) hs (sortI_sorted is)
theorem sortI_len (l : List Int) : (sortI l).length = l.length := (sortI_perm l).length_eq
theorem take_same {α : Type} {l : List α} {i j : Nat} (h : min i l.length = min j l.length) : l.take i = l.take j := by
  rw [List.take_eq_take_iff]
  exact h
def slN {α : Type} (r : List α) (a b : Nat) : List α := (r.drop a).take (b - a)
theorem cut_nat (r : List Int) (a b : Nat) : Dl.cutD (r.map PyData.int) (some (a : Int)) (some (b : Int)) = (slN r a b).map .int := by
  unfold Dl.cutD slN
  rw [HT.sIx_nat, HT.sIx_nat, List.length_map, ← List.map_drop, ← List.map_take]
  congr 1
  by_cases q : a ≤ r.length
  · rw [Nat.min_eq_left q]
    refine take_same ?_
    rw [List.length_drop]
    omega
  · have e1 : min a r.length = r.length := by omega
    rw [e1, List.drop_of_length_le (Nat.le_refl _), List.drop_of_length_le (by omega), List.take_nil, List.take_nil]
theorem slN_mem {α : Type} {r : List α} {a b : Nat} {x : α} (h : x ∈ slN r a b) : ∃ j, a ≤ j ∧ j < b ∧ r[j]? = some x := by
  unfold slN at h
  obtain ⟨i, hi, e⟩ := List.getElem_of_mem h
  rw [List.length_take, List.length_drop] at hi
  refine ⟨a + i, by omega, by omega, ?_⟩
  have e2 : ((r.drop a).take (b - a))[i]? = some x := by rw [← e]; exact List.getElem?_eq_getElem _
  rw [List.getElem?_take, if_pos (by omega), List.getElem?_drop] at e2
  exact e2
theorem mem_slN {α : Type} {r : List α} {a b j : Nat} {x : α} (h1 : a ≤ j) (h2 : j < b) (e : r[j]? = some x) : x ∈ slN r a b := by
  have e2 : ((r.drop a).take (b - a))[j - a]? = some x := by
    rw [List.getElem?_take, if_pos (by omega), List.getElem?_drop]
    rw [show a + (j - a) = j by omega]
    exact e
  exact List.mem_of_getElem? e2
def parkAt (L : Lin) (r N : List Int) (i : Nat) : List Int := if (L.getD i z0).1 = "yard" then sortI (slN r (N.take i).sum.toNat (N.take (i + 1)).sum.toNat) else slN r (N.take i).sum.toNat (N.take (i + 1)).sum.toNat
def parkS (L : Lin) (r N : List Int) : Std := (List.range L.length).map (parkAt L r N)
theorem parkAt_perm (L : Lin) (r N : List Int) (i : Nat) : (parkAt L r N i).Perm (slN r (N.take i).sum.toNat (N.take (i + 1)).sum.toNat) := by
  unfold parkAt
  split
  · exact sortI_perm _
  · exact .refl _
theorem takes_nonneg {L : Lin} {N : List Int} (h : fits L N) : ∀ i, 0 ≤ (N.take i).sum
  | 0 => Int.le_refl _
  | i + 1 => by
    have h1 := takes_nonneg h i
    by_cases q : i < N.length
    · rw [sum_take q]
      have := (h.2 i (by rw [← h.1]; exact q)).1
      omega
    · rw [List.take_of_length_le (by omega)] at h1 ⊢
      exact h1
theorem park_perm {L : Lin} {r N : List Int} (h : fits L N) : ∀ {i : Nat}, i ≤ L.length → ((List.range i).map (parkAt L r N)).flatten.Perm (r.take (N.take i).sum.toNat)
  | 0, _ => by
    show ([] : List Int).Perm _
    rw [List.take_zero]
    exact .refl _
  | i + 1, hi => by
    have h1 := park_perm (r := r) h (i := i) (by omega)
    have h2 := takes_nonneg h i
    have h3 := (h.2 i (by omega)).1
    have h4 := sum_take (N := N) (i := i) (by rw [h.1]; omega)
    rw [range_at, List.map_append, List.flatten_append]
    have e : (N.take (i + 1)).sum.toNat = (N.take i).sum.toNat + (N.getD i 0).toNat := by omega
    rw [e, List.take_add]
    refine h1.append ?_
    have h5 := parkAt_perm L r N i
    unfold slN at h5
    rw [e, Nat.add_sub_cancel_left] at h5
    simpa using h5
theorem park_all {L : Lin} {r N : List Int} (h : fits L N) (hs : N.sum = r.length) : (parkS L r N).flatten.Perm r := by
  have h1 := park_perm (r := r) h (Nat.le_refl L.length)
  rw [show L.length = N.length from h.1.symm, List.take_length, hs] at h1
  have e : ((r.length : Int)).toNat = r.length := by omega
  rw [e, List.take_length, h.1] at h1
  exact h1
theorem parkS_len (L : Lin) (r N : List Int) : (parkS L r N).length = L.length := by unfold parkS; rw [List.length_map, List.length_range]
theorem parkS_at {L : Lin} {r N : List Int} {i : Nat} (h : i < L.length) : (parkS L r N).getD i [] = parkAt L r N i := by
  unfold parkS
  rw [List.getD_eq_getElem?_getD, List.getElem?_map, List.getElem?_range h]
  rfl
/-- a line and a standing of it -/
structure Scn (L : Lin) (S : Std) : Prop where
  len : S.length = L.length
  nodup : S.flatten.Nodup
  nonneg : ∀ x ∈ S.flatten, 0 ≤ x ∧ x < 2 ^ 40
  room : ∀ i, i < L.length → ((S.getD i []).length : Int) ≤ (L.getD i z0).2
  yard : ∀ i, i < L.length → (L.getD i z0).1 = "yard" → (S.getD i []).Pairwise (· ≤ ·)
theorem scn_park {L : Lin} {r N : List Int} (h : fits L N) (hs : N.sum = r.length) (hn : r.Nodup) (h0 : ∀ x ∈ r, 0 ≤ x ∧ x < 2 ^ 40) : Scn L (parkS L r N) where
  len := parkS_len L r N
  nodup := (park_all h hs).nodup_iff.mpr hn
  nonneg := fun x hx => h0 x ((park_all h hs).mem_iff.mp hx)
  room := fun i hi => by
    rw [parkS_at hi]
    have h1 := (parkAt_perm L r N i).length_eq
    have h2 := sum_take (N := N) (i := i) (by rw [h.1]; exact hi)
    have h3 := h.2 i hi
    have h4 := takes_nonneg h i
    unfold slN at h1
    rw [List.length_take, List.length_drop] at h1
    omega
  yard := fun i hi e => by
    rw [parkS_at hi]
    unfold parkAt
    rw [if_pos e]
    exact sortI_sorted _
def phParkX : List PyData → (O → Prop) → Prop := fun ds Kt => ∃ (d : PyData) (L : Lin) (N r : List Int), ds = [d, .list (r.map .int), .list (N.map .int)] ∧ Ln d L ∧ fits L N ∧ L.length ≤ 40 ∧ kindsOk L ∧ r.length ≤ 40 ∧ N.sum = r.length ∧ Kt (.fz (stdD (parkS L r N)))
def blkF (J : Nat → Bool) : Nat → List (Nat × Nat) × Nat
  | 0 => ([], 0)
  | n + 1 => if J n = true then blkF J n else ((blkF J n).1 ++ [((blkF J n).2, n)], n + 1)
def jnT (L : Lin) (m : Nat) (a : Nat) : Bool := decide (a ∈ jointsT L m)
def blksT (L : Lin) (m : Nat) : List (Nat × Nat) := (blkF (jnT L m) m).1
abbrev pairD (p : Nat × Nat) : PyData := .tuple [.int p.1, .int p.2]
theorem blkF_le (J : Nat → Bool) : ∀ n, (blkF J n).2 ≤ n ∧ (blkF J n).1.length ≤ n
  | 0 => ⟨Nat.le_refl _, Nat.le_refl _⟩
  | n + 1 => by
    have h := blkF_le J n
    unfold blkF
    split
    · omega
    · refine ⟨Nat.le_refl _, ?_⟩
      show ((blkF J n).1 ++ _).length ≤ _
      rw [List.length_append]
      simp
      omega
/-- the blocks lie one behind the other -/
theorem blkF_ord (J : Nat → Bool) : ∀ n, (∀ p ∈ (blkF J n).1, p.1 ≤ p.2 ∧ p.2 < (blkF J n).2) ∧ (blkF J n).1.Pairwise (fun p q => p.2 < q.1)
  | 0 => ⟨fun p h => absurd h (by simp [blkF]), .nil⟩
  | n + 1 => by
    obtain ⟨h1, h2⟩ := blkF_ord J n
    have h3 := (blkF_le J n).1
    unfold blkF
    split
    · exact ⟨h1, h2⟩
    · refine ⟨fun p hp => ?_, List.pairwise_append.mpr ⟨h2, List.pairwise_singleton _ _, fun p hp q hq => ?_⟩⟩
      · rcases List.mem_append.mp hp with hp | hp
        · have := h1 p hp
          show _ ∧ p.2 < n + 1
          omega
        · rw [List.mem_singleton] at hp
          subst hp
          exact ⟨h3, Nat.lt_succ_self n⟩
      · rw [List.mem_singleton] at hq
        subst hq
        exact (h1 p hp).2
theorem blkF_range (J : Nat → Bool) : ∀ n, ((blkF J n).1.map fun p => List.range' p.1 (p.2 + 1 - p.1)).flatten = List.range' 0 (blkF J n).2
  | 0 => rfl
  | n + 1 => by
    have h := blkF_range J n
    have h3 := (blkF_le J n).1
    unfold blkF
    split
    · exact h
    · show (((blkF J n).1 ++ [((blkF J n).2, n)]).map fun p => List.range' p.1 (p.2 + 1 - p.1)).flatten = List.range' 0 (n + 1)
      rw [List.map_append, List.flatten_append, h]
      show List.range' 0 (blkF J n).2 ++ (List.range' (blkF J n).2 (n + 1 - (blkF J n).2) ++ []) = _
      rw [List.append_nil]
      have e := List.range'_append (s := 0) (m := (blkF J n).2) (n := n + 1 - (blkF J n).2) (step := 1)
      simp only [Nat.one_mul, Nat.zero_add] at e
      rw [e]
      congr 1
      omega
theorem jnT_last (L : Lin) {m : Nat} (h : 0 < m) : jnT L m (m - 1) = false := by
  unfold jnT
  refine decide_eq_false fun q => ?_
  unfold jointsT at q
  have := List.mem_range.mp (List.mem_filter.mp q).1
  omega
theorem blks_end (L : Lin) (m : Nat) : (blkF (jnT L m) m).2 = m := by
  cases m with
  | zero => rfl
  | succ m =>
    have h := jnT_last L (m := m + 1) (by omega)
    rw [show m + 1 - 1 = m by omega] at h
    unfold blkF
    rw [h]
    rfl
theorem blks_len (L : Lin) (m : Nat) : (blksT L m).length ≤ m := (blkF_le _ m).2
theorem blks_mem {L : Lin} {m : Nat} {p : Nat × Nat} (h : p ∈ blksT L m) : p.1 ≤ p.2 ∧ p.2 < m := by
  have := (blkF_ord (jnT L m) m).1 p h
  rw [blks_end] at this
  exact this
theorem blks_range (L : Lin) (m : Nat) : ((blksT L m).map fun p => List.range' p.1 (p.2 + 1 - p.1)).flatten = List.range' 0 m := by
  have := blkF_range (jnT L m) m
  rw [blks_end] at this
  exact this
theorem get_last {α : Type} (l : List α) (x d : α) : (l ++ [x]).getD ((l ++ [x]).length - 1) d = x := by
  rw [List.length_append, List.length_singleton, Nat.add_sub_cancel, List.getD_eq_getElem?_getD, List.getElem?_append_right (Nat.le_refl _), Nat.sub_self]
  rfl
def lowL (L : Lin) (c : Nat) (i : Nat) : Int := if (c : Int) - caps (L.drop i) > 0 then (c : Int) - caps (L.drop i) else 0
def highL (L : Lin) (c : Nat) (i : Nat) : Int := if caps (L.take (i + 1)) < (c : Int) then caps (L.take (i + 1)) else (c : Int)
theorem caps_drop (L : Lin) (i : Nat) : caps (L.drop i) = caps L - caps (L.take i) := by
  have h : caps L = caps (L.take i) + caps (L.drop i) := by
    unfold caps
    rw [← List.sum_append, ← List.map_append, List.take_append_drop]
  omega
def grpsT (L : Lin) (r : List Int) : List (List Int) := (blksT L r.length).map fun p => sortI (slN r p.1 (p.2 + 1))
theorem grps_len (L : Lin) (r : List Int) : (grpsT L r).length ≤ r.length := by
  unfold grpsT
  rw [List.length_map]
  exact blks_len L r.length
theorem grps_at {L : Lin} {r : List Int} {b : Nat} (h : b < (grpsT L r).length) : ∃ p, (blksT L r.length)[b]? = some p ∧ (grpsT L r).getD b [] = sortI (slN r p.1 (p.2 + 1)) := by
  unfold grpsT at h ⊢
  rw [List.length_map] at h
  refine ⟨(blksT L r.length)[b], List.getElem?_eq_getElem h, ?_⟩
  rw [List.getD_eq_getElem?_getD, List.getElem?_map, List.getElem?_eq_getElem h]
  rfl
theorem nodup_at {r : List Int} (h : r.Nodup) {i j : Nat} {x : Int} (a : r[i]? = some x) (b : r[j]? = some x) : i = j := by
  obtain ⟨h1, e1⟩ := List.getElem?_eq_some_iff.mp a
  obtain ⟨h2, e2⟩ := List.getElem?_eq_some_iff.mp b
  exact (List.getElem_inj h).mp (e1.trans e2.symm)
/-- a train stands in one group alone -/
theorem grps_one {L : Lin} {r : List Int} (hn : r.Nodup) {b c : Nat} {t : Int} (hb : t ∈ (grpsT L r).getD b []) (hc : t ∈ (grpsT L r).getD c []) : ¬ b < c := by
  intro hlt
  have inr : ∀ {b : Nat}, t ∈ (grpsT L r).getD b [] → b < (grpsT L r).length := fun {b} h => by
    by_cases q : b < (grpsT L r).length
    · exact q
    · rw [List.getD_eq_getElem?_getD, List.getElem?_eq_none (by omega)] at h
      exact absurd h (by simp)
  obtain ⟨p, e1, e2⟩ := grps_at (inr hb)
  obtain ⟨q, e3, e4⟩ := grps_at (inr hc)
  rw [e2] at hb
  rw [e4] at hc
  obtain ⟨i, i1, i2, i3⟩ := slN_mem ((sortI_perm _).mem_iff.mp hb)
  obtain ⟨j, j1, j2, j3⟩ := slN_mem ((sortI_perm _).mem_iff.mp hc)
  have e := nodup_at hn i3 j3
  have ord := (blkF_ord (jnT L r.length) r.length).2
  obtain ⟨h1, e1⟩ := List.getElem?_eq_some_iff.mp e1
  obtain ⟨h2, e3⟩ := List.getElem?_eq_some_iff.mp e3
  have := List.pairwise_iff_getElem.mp ord b c h1 h2 hlt
  have e1' : (blkF (jnT L r.length) r.length).1[b] = p := e1
  have e3' : (blkF (jnT L r.length) r.length).1[c] = q := e3
  rw [e1', e3'] at this
  omega
def tupD (N : List Int) : PyData := .tuple (N.map .int)
def phBlocks : List PyData → (O → Prop) → Prop := fun ds Kt => ∃ (d : PyData) (L : Lin) (m : Nat), ds = [d, .int m] ∧ Ln d L ∧ L.length ≤ 40 ∧ kindsOk L ∧ m ≤ 40 ∧ Kt (.own ((blksT L m).map pairD))
def phGroups : List PyData → (O → Prop) → Prop := fun ds Kt => ∃ (d e : PyData) (L : Lin) (S : Std), ds = [d, e] ∧ Ln d L ∧ St e S ∧ L.length ≤ 40 ∧ kindsOk L ∧ S.flatten.length ≤ 40 ∧ Kt (.own ((grpsT L S.flatten).map tupD))
/-- where a train's group is found, or not -/
def InGrp (L : Lin) (r : List Int) (t : Int) (b : Nat) : Prop := b < (grpsT L r).length ∧ t ∈ (grpsT L r).getD b [] ∧ ∀ b', b' < b → t ∉ (grpsT L r).getD b' []
def NoGrp (L : Lin) (r : List Int) (t : Int) : Prop := ∀ b, b < (grpsT L r).length → t ∉ (grpsT L r).getD b []
def phBlockOf (cN : Addr) : List PyData → (O → Prop) → (XS → Prop) → Prop := fun ds Kt Ke => ∃ (d e : PyData) (L : Lin) (S : Std) (t : Int), ds = [d, e, .int t] ∧ Ln d L ∧ St e S ∧ L.length ≤ 40 ∧ kindsOk L ∧ S.flatten.length ≤ 40 ∧
  (∀ b, InGrp L S.flatten t b → Kt (.fz (.int (b : Nat)))) ∧ (NoGrp L S.flatten t → Ke (cN, some ("train", .int t)))
end Kx
namespace Kx
open PySem PySem.Spec PyProof.Rows L2 Dl
theorem flat_nats (l : List Nat) : (natsD l).all flatD = true := by
  rw [List.all_eq_true]
  intro d hd
  obtain ⟨n, _, rfl⟩ := List.mem_map.mp hd
  rfl
theorem flat_ints (l : List Int) : (l.map PyData.int).all flatD = true := by
  rw [List.all_eq_true]
  intro d hd
  obtain ⟨n, _, rfl⟩ := List.mem_map.mp hd
  rfl
theorem inD_ints (t : Int) : ∀ l : List Int, Dl.inD (.int t) (l.map .int) = decide (t ∈ l)
  | [] => by simp [Dl.inD]
  | x :: l => by
    have h := inD_ints t l
    unfold Dl.inD at h ⊢
    rw [List.map_cons, List.any_cons, h]
    have e : PyData.eqv (.int x) (.int t) = decide (x = t) := rfl
    rw [e]
    by_cases q : x = t
    · subst q
      simp
    · have q2 : ¬ t = x := fun z => q z.symm
      simp [q, q2]
theorem inD_nats (t : Nat) (l : List Nat) : Dl.inD (.int (t : Int)) (natsD l) = decide (t ∈ l) := by
  have e : natsD l = (l.map fun n : Nat => (n : Int)).map .int := by rw [List.map_map]; rfl
  rw [e, inD_ints]
  refine decide_eq_decide.mpr ?_
  constructor
  · intro h
    obtain ⟨n, hn, e⟩ := List.mem_map.mp h
    have : n = t := by omega
    rw [← this]
    exact hn
  · intro h
    exact List.mem_map.mpr ⟨t, h, rfl⟩
end Kx
end
section
set_option maxHeartbeats 1000000
namespace Kx
open PySem PySem.Spec PyProof.Rows L2 Dl
def phCount : Nat → List PyData → (O → Nat → Prop) → Prop := fun m ds Kt => ∃ (d : PyData) (L : Lin) (most : Int), ds = [d, .int most] ∧ Ln d L ∧ L.length ≤ 40 ∧ kindsOk L ∧ 0 ≤ most ∧ most ≤ 40 ∧ m < 2 ^ 58 ∧ ∀ c : Nat, (c : Int) ≤ most → (c : Int) ≤ caps L → Kt (.fz (.int c)) (m + 2)
def phCarts : List PyData → (O → Prop) → Prop := fun ds Kt => ∃ e S, ds = [e] ∧ St e S ∧ S.flatten.length ≤ 40 ∧ Kt (.own ((sortI S.flatten).map .int))
theorem cut_to {α : Type} (f : α → PyData) (l : List α) (i : Nat) : Dl.cutD (l.map f) none (some (i : Int)) = (l.take i).map f := by
  unfold Dl.cutD
  rw [HT.sIx_nat, HT.sIx_none, List.length_map, List.drop_zero, Nat.sub_zero, ← List.map_take]
  congr 1
  exact take_same (by omega)
theorem low_high (L : Lin) (c i : Nat) : 0 ≤ lowL L c i ∧ highL L c i ≤ c := by
  unfold lowL highL
  constructor
  · split <;> omega
  · split <;> omega
theorem kinds_drop {L : Lin} (h : kindsOk L) (n : Nat) : kindsOk (L.drop n) := fun i hi => by
  rw [List.length_drop] at hi
  have e : (L.drop n).getD i z0 = L.getD (n + i) z0 := by
    rw [List.getD_eq_getElem?_getD, List.getD_eq_getElem?_getD, List.getElem?_drop]
  rw [e]
  exact h _ (by omega)
theorem ixN_last {n : Nat} (h : 0 < n) : ixN n (-1) = some (n - 1) := by
  unfold ixN
  rw [if_neg (by decide), if_pos (by omega)]
  congr 1
  omega
theorem atI_last {α : Type} {l : List α} (d : α) (h : 0 < l.length) : atI l (-1) = some (l.getD (l.length - 1) d) := by
  unfold atI
  rw [ixN_last h]
  have hl : l.length - 1 < l.length := by omega
  show l[l.length - 1]? = _
  rw [List.getD_eq_getElem?_getD, List.getElem?_eq_getElem hl]
  rfl
theorem set_map {α β : Type} (f : α → β) (l : List α) (i : Nat) (x : α) : (l.map f).set i (f x) = (l.set i x).map f := (List.map_set ..).symm
end Kx
end
section
set_option maxHeartbeats 1000000
namespace Kx
open PySem PySem.Spec PyProof.Rows L2 Dl
theorem natsD_app (l k : List Nat) : natsD l ++ natsD k = natsD (l ++ k) := by
  unfold natsD
  rw [List.map_append]
theorem natsD_len (l : List Nat) : (natsD l).length = l.length := by
  unfold natsD
  rw [List.length_map]
theorem getD_memI {l : List Int} {j : Nat} (h : j < l.length) : l.getD j 0 ∈ l := by
  rw [List.getD_eq_getElem?_getD, List.getElem?_eq_getElem h]
  exact List.getElem_mem h
/-- where a train stands: the first place that holds it -/
def AtPl (S : Std) (t : Int) (i : Nat) : Prop := i < S.length ∧ t ∈ S.getD i [] ∧ ∀ j, j < i → t ∉ S.getD j []
def phSpot : List PyData → (O → Prop) → Prop := fun ds Kt => ∃ e S t i, ds = [e, .int t] ∧ St e S ∧ S.length ≤ 40 ∧ AtPl S t i ∧ Kt (.fz (.int (i : Nat)))
def hitsT (S : Std) (t : Int) (k : Nat) : List Nat := (List.range k).filter fun j => decide (t ∈ S.getD j [])
theorem hits_at (S : Std) (t : Int) (k : Nat) : hitsT S t (k + 1) = hitsT S t k ++ (if t ∈ S.getD k [] then [k] else []) := by
  unfold hitsT
  rw [List.range_succ, List.filter_append]
  refine congrArg (List.filter _ (List.range k) ++ ·) ?_
  show (match decide (t ∈ S.getD k []) with | true => [k] | false => []) = _
  by_cases q : t ∈ S.getD k []
  · rw [if_pos q, decide_eq_true q]
  · rw [if_neg q, decide_eq_false q]
theorem hits_len (S : Std) (t : Int) : ∀ k, (hitsT S t k).length ≤ k := fun k => by
  unfold hitsT
  have := List.length_filter_le (fun j => decide (t ∈ S.getD j [])) (List.range k)
  rw [List.length_range] at this
  exact this
theorem hits_low {S : Std} {t : Int} {i : Nat} (h : AtPl S t i) : ∀ k, k ≤ i → hitsT S t k = []
  | 0, _ => rfl
  | k + 1, hk => by rw [hits_at, hits_low h k (by omega), if_neg (h.2.2 k (by omega))]; rfl
theorem hits_first {S : Std} {t : Int} {i : Nat} (h : AtPl S t i) : ∀ k, i < k → ∃ r, hitsT S t k = i :: r
  | k + 1, hk => by
    rw [hits_at]
    by_cases q : k = i
    · rw [q, hits_low h i (Nat.le_refl _), if_pos h.2.1]
      exact ⟨[], rfl⟩
    · obtain ⟨r, e⟩ := hits_first h k (by omega)
      rw [e]
      exact ⟨_, rfl⟩
theorem std_at {S : Std} {i : Nat} {t : Int} (hi : i < S.length) (h : t ∈ S.getD i []) : t ∈ S.flatten := by
  refine List.mem_flatten.mpr ⟨S.getD i [], ?_, h⟩
  rw [List.getD_eq_getElem?_getD, List.getElem?_eq_getElem hi]
  exact List.getElem_mem hi
theorem atPl_of {S : Std} {t : Int} (h : t ∈ S.flatten) : ∃ i, AtPl S t i := by
  obtain ⟨l, hl, ht⟩ := List.mem_flatten.mp h
  obtain ⟨n, hn, e⟩ := List.getElem_of_mem hl
  have hn2 : t ∈ S.getD n [] := by
    rw [List.getD_eq_getElem?_getD, List.getElem?_eq_getElem hn]
    show t ∈ S[n]
    rw [e]
    exact ht
  have low : ∀ m, m ≤ n → (∃ i, AtPl S t i) ∨ ∀ j, j < m → t ∉ S.getD j [] := fun m => by
    induction m with
    | zero => exact fun _ => .inr fun j hj => absurd hj (Nat.not_lt_zero _)
    | succ m ih =>
      intro hm
      rcases ih (by omega) with a | a
      · exact .inl a
      · by_cases q : t ∈ S.getD m []
        · exact .inl ⟨m, by omega, q, a⟩
        · refine .inr fun j hj => ?_
          by_cases e : j = m
          · rw [e]; exact q
          · exact a j (by omega)
  rcases low n (Nat.le_refl _) with a | a
  · exact a
  · exact ⟨n, hn, hn2, a⟩
theorem depthAll_le {n : Nat} : ∀ {ds : List PyData}, (∀ d ∈ ds, d.depth ≤ n) → PyData.depthAll ds ≤ n
  | [], _ => by simp [PyData.depthAll]
  | d :: ds, h => by
    have h1 := h d List.mem_cons_self
    have h2 := depthAll_le fun e he => h e (List.mem_cons_of_mem d he)
    simp only [PyData.depthAll]
    omega
theorem layAll {ds : List PyData} : (∀ d ∈ ds, d.canLay0 = true) → PyData.canLayAll0 ds = true := fun h => by
  induction ds with
  | nil => simp [PyData.canLayAll0]
  | cons d ds ih =>
    simp only [PyData.canLayAll0]
    rw [h d List.mem_cons_self, ih fun e he => h e (List.mem_cons_of_mem d he)]
    rfl
theorem deep_lay {n : Nat} {d : PyData} (h : Deep n d) : d.canLay0 = true ∧ d.depth ≤ n := by
  induction h with
  | int n i => exact ⟨rfl, Nat.zero_le _⟩
  | bool n b => exact ⟨rfl, Nat.zero_le _⟩
  | str n x hx => exact ⟨(Bool.and_eq_true_iff.mp hx).1, Nat.zero_le _⟩
  | none n => exact ⟨rfl, Nat.zero_le _⟩
  | list n ds hl hd ih => exact ⟨layAll fun d h => (ih d h).1, Nat.succ_le_succ (depthAll_le fun d h => (ih d h).2)⟩
  | tuple n ds hl hd ih => exact ⟨layAll fun d h => (ih d h).1, Nat.succ_le_succ (depthAll_le fun d h => (ih d h).2)⟩
/-- two such data that are the same are equal -/
theorem deep_eq {n : Nat} {d : PyData} (h : Deep n d) (hn : n ≤ 60) : (SeqAt.shaped d = true ∧ SeqAt.shaped d = true) ∧ PyData.eqv d d = true := by
  obtain ⟨h1, h2⟩ := deep_lay h
  have q : SeqAt.shaped d = true := Bool.and_eq_true_iff.mpr ⟨h1, decide_eq_true (by omega)⟩
  exact ⟨⟨q, q⟩, PySem.SeqAt.eqv_refl d h1⟩
theorem deep_listed {n : Nat} {d : PyData} (h : Deep n d) : Deep n (listed d) := by
  induction h with
  | int n i => exact .int n i
  | bool n b => exact .bool n b
  | str n x hx => exact .str n x hx
  | none n => exact .none n
  | list n ds hl hd ih =>
    show Deep (n + 1) (.list (listedAll ds))
    rw [listedAll_map]
    exact .list n _ (by rw [List.length_map]; exact hl) fun d hd => by
      obtain ⟨e, he, rfl⟩ := List.mem_map.mp hd
      exact ih e he
  | tuple n ds hl hd ih =>
    show Deep (n + 1) (.list (listedAll ds))
    rw [listedAll_map]
    exact .list n _ (by rw [List.length_map]; exact hl) fun d hd => by
      obtain ⟨e, he, rfl⟩ := List.mem_map.mp hd
      exact ih e he
theorem eq_lists {L : Lin} {S : Std} (hS : Scn L S) (h5 : L.length ≤ 40) (hK : kindsOk L) (h : S.flatten.length ≤ 40) : (SeqAt.shaped (.list [lineDL L, stdDL S]) = true ∧ SeqAt.shaped (.list [lineDL L, stdDL S]) = true) ∧ PyData.eqv (.list [lineDL L, stdDL S]) (.list [lineDL L, stdDL S]) = true := by
  have a : Deep 2 (lineDL L) := by
    rw [← listed_line]
    exact deep_listed (deep_line h5 hK)
  have b : Deep 2 (stdDL S) := by
    rw [← listed_std]
    exact deep_listed (deep_std (by rw [hS.len]; exact h5) h)
  refine deep_eq (n := 3) (.list 2 _ (by simp) fun x he => ?_) (by decide)
  simp at he
  rcases he with rfl | rfl
  · exact a
  · exact b
end Kx
end
section
set_option maxHeartbeats 1000000
namespace Kx
open PySem PySem.Spec PyProof.Rows L2 Dl
def SideOk (s : Str) : Prop := s = "left" ∨ s = "right"
theorem shR : SeqAt.shaped (.str "right") = true := by decide +kernel
theorem shL : SeqAt.shaped (.str "left") = true := by decide +kernel
def isR (s : Str) : Bool := decide (s = "right")
def nbT (p : Int) (s : Str) : Int := if isR s = true then p + 1 else p - 1
def roomB (L : Lin) (S : Std) (q : Int) : Bool := (decide (0 ≤ q) && decide (q < L.length)) && decide (((S.getD q.toNat []).length : Int) < (L.getD q.toNat z0).2)
def endT (S : Std) (i : Nat) (s : Str) : Int := if isR s = true then (S.getD i []).getD ((S.getD i []).length - 1) 0 else (S.getD i []).getD 0 0
def leaveB (L : Lin) (S : Std) (i : Nat) (t : Int) (s : Str) : Bool := decide ((L.getD i z0).1 = "yard") || decide (t = endT S i s)
def canB (L : Lin) (S : Std) (i : Nat) (t : Int) (s : Str) : Bool := roomB L S (nbT i s) && leaveB L S i t s
def dropT (l : List Int) (t : Int) : List Int := l.filter fun x => decide (x ≠ t)
def entT (L : Lin) (S : Std) (q : Nat) (t : Int) (s : Str) : List Int := if (L.getD q z0).1 = "yard" then sortI (t :: S.getD q []) else if isR s = true then t :: S.getD q [] else S.getD q [] ++ [t]
def goneT (L : Lin) (S : Std) (i : Nat) (t : Int) (s : Str) : Std := (S.set i (dropT (S.getD i []) t)).set (nbT i s).toNat (entT L S (nbT i s).toNat t s)
/-- the place of a train that stands on the line -/
def plT (S : Std) (t : Int) : Nat := (hitsT S t S.length).headD 0
theorem pl_of {S : Std} {t : Int} {i : Nat} (h : AtPl S t i) : plT S t = i := by
  obtain ⟨r, e⟩ := hits_first h S.length h.1
  unfold plT
  rw [e]
  rfl
def canAt (L : Lin) (S : Std) (t : Int) (s : Str) : Bool := canB L S (plT S t) t s
abbrev hopD (t : Int) (s : Str) : PyData := .tuple [.int t, .str s]
def hop1 (L : Lin) (S : Std) (t : Int) (s : Str) : List PyData := if canAt L S t s = true then [hopD t s] else []
def hop2 (L : Lin) (S : Std) (t : Int) : List PyData := hop1 L S t "left" ++ hop1 L S t "right"
def hopsT (L : Lin) (S : Std) : List PyData := ((sortI S.flatten).map (hop2 L S)).flatten
theorem hop2_len (L : Lin) (S : Std) (t : Int) : (hop2 L S t).length ≤ 2 := by
  unfold hop2 hop1
  rw [List.length_append]
  split <;> split <;> simp
theorem hops_len (L : Lin) (S : Std) : ∀ l : List Int, ((l.map (hop2 L S)).flatten).length ≤ 2 * l.length
  | [] => Nat.le_refl _
  | t :: l => by
    have h1 := hop2_len L S t
    have h2 := hops_len L S l
    rw [List.map_cons, List.flatten_cons, List.length_append, List.length_cons]
    omega
theorem drop_len (l : List Int) (t : Int) : (dropT l t).length ≤ l.length := List.length_filter_le _ _
theorem drop_at {l : List Int} {t : Int} {i : Nat} (h : i < l.length) : dropT (l.take (i + 1)) t = dropT (l.take i) t ++ (if l.getD i 0 ≠ t then [l.getD i 0] else []) := by
  unfold dropT
  rw [take_at 0 h, List.filter_append]
  refine congrArg (List.filter _ (l.take i) ++ ·) ?_
  show (match decide (l.getD i 0 ≠ t) with | true => [l.getD i 0] | false => []) = _
  by_cases q : l.getD i 0 ≠ t
  · rw [if_pos q, decide_eq_true q]
  · rw [if_neg q, decide_eq_false q]
theorem ne_of_not {x t : Int} (h : (!decide (x = t)) = true) : x ≠ t := fun e => by
  rw [decide_eq_true e] at h
  cases h
theorem not_ne_of_not {x t : Int} (h : (!decide (x = t)) = false) : ¬ x ≠ t := fun e => by
  rw [decide_eq_false e] at h
  cases h
/-- the moves of one train, the first j sides asked -/
def hopJ (L : Lin) (S : Std) (t : Int) : Nat → List PyData
  | 0 => []
  | 1 => hop1 L S t "left"
  | _ => hop2 L S t
theorem hop_side (L : Lin) (S : Std) (t : Int) {j : Nat} (h : j < [PyData.str "left", PyData.str "right"].length) : ∃ s : Str, (fun i => [PyData.str "left", PyData.str "right"].getD i .none) j = .str s ∧ SideOk s ∧ hopJ L S t (j + 1) = hopJ L S t j ++ (if canAt L S t s = true then [hopD t s] else []) := by
  match j, h with
  | 0, _ => exact ⟨"left", rfl, .inl rfl, rfl⟩
  | 1, _ => exact ⟨"right", rfl, .inr rfl, rfl⟩
theorem hopJ_len (L : Lin) (S : Std) (t : Int) {j : Nat} (h : j < [PyData.str "left", PyData.str "right"].length) : (hopJ L S t j).length ≤ 1 := by
  match j, h with
  | 0, _ => exact Nat.zero_le _
  | 1, _ =>
    show (hop1 L S t "left").length ≤ 1
    unfold hop1
    split <;> simp
theorem can_room {L : Lin} {S : Std} {i : Nat} {t : Int} {s : Str} (hat : AtPl S t i) (h : canAt L S t s = true) : 0 ≤ nbT i s ∧ nbT i s < L.length ∧ ((S.getD (nbT i s).toNat []).length : Int) < (L.getD (nbT i s).toNat z0).2 ∧ leaveB L S i t s = true := by
  unfold canAt at h
  rw [pl_of hat] at h
  obtain ⟨h1, h2⟩ := Bool.and_eq_true_iff.mp h
  obtain ⟨h3, h4⟩ := Bool.and_eq_true_iff.mp h1
  obtain ⟨h5, h6⟩ := Bool.and_eq_true_iff.mp h3
  exact ⟨of_decide_eq_true h5, of_decide_eq_true h6, of_decide_eq_true h4, h2⟩
theorem place_len (S : Std) (i : Nat) : (S.getD i []).length ≤ S.flatten.length := by
  by_cases h : i < S.length
  · rw [List.getD_eq_getElem?_getD, List.getElem?_eq_getElem h]
    exact (List.sublist_flatten_of_mem (List.getElem_mem h)).length_le
  · rw [List.getD_eq_getElem?_getD, List.getElem?_eq_none (by omega)]
    exact Nat.zero_le _
end Kx
end
section
set_option maxHeartbeats 1000000
namespace Kx
open PySem PySem.Spec PyProof.Rows L2 Dl
theorem getD_mem2 {α : Type} {l : List α} {i : Nat} (d : α) (h : i < l.length) : l.getD i d ∈ l := by
  rw [List.getD_eq_getElem?_getD, List.getElem?_eq_getElem h]
  exact List.getElem_mem h
theorem std_split {S : Std} {i : Nat} (h : i < S.length) : S.flatten = (S.take i).flatten ++ (S.getD i [] ++ (S.drop (i + 1)).flatten) := by
  have e : S = S.take i ++ (S.getD i [] :: S.drop (i + 1)) := by
    have e1 := List.take_append_drop i S
    have e2 : S.drop i = S.getD i [] :: S.drop (i + 1) := by
      rw [List.drop_eq_getElem_cons h, List.getD_eq_getElem?_getD, List.getElem?_eq_getElem h]
      rfl
    rw [← e2, e1]
  conv => lhs; rw [e]
  rw [List.flatten_append, List.flatten_cons]
theorem place_nodup {S : Std} (hn : S.flatten.Nodup) {i : Nat} (h : i < S.length) : (S.getD i []).Nodup := by
  rw [std_split h] at hn
  exact (List.nodup_append.mp (List.nodup_append.mp hn).2.1).1
theorem std_one {S : Std} (hn : S.flatten.Nodup) {i j : Nat} (hi : i < S.length) (hj : j < S.length) {t : Int} (h1 : t ∈ S.getD i []) (h2 : t ∈ S.getD j []) : i = j := by
  have key : ∀ {a b : Nat}, a < S.length → b < S.length → a < b → t ∈ S.getD a [] → t ∈ S.getD b [] → False := fun {a b} ha hb lt g1 g2 => by
    have hn2 := hn
    rw [std_split hb] at hn2
    have m1 : t ∈ (S.take b).flatten := by
      refine List.mem_flatten.mpr ⟨S.getD a [], ?_, g1⟩
      have e : (S.take b).getD a [] = S.getD a [] := by rw [List.getD_eq_getElem?_getD, List.getElem?_take_of_lt lt, ← List.getD_eq_getElem?_getD]
      rw [← e]
      exact getD_mem2 [] (by rw [List.length_take]; omega)
    exact (List.nodup_append.mp hn2).2.2 t m1 t (List.mem_append_left _ g2) rfl
  rcases Nat.lt_trichotomy i j with q | q | q
  · exact (key hi hj q h1 h2).elim
  · exact q
  · exact (key hj hi q h2 h1).elim
theorem atPl_at {S : Std} (hn : S.flatten.Nodup) {i : Nat} (hi : i < S.length) {t : Int} (h : t ∈ S.getD i []) : AtPl S t i := ⟨hi, h, fun j hj k => by
  have := std_one hn hi (by omega) h k
  omega⟩
theorem drop_mem {l : List Int} {t x : Int} : x ∈ dropT l t ↔ x ∈ l ∧ x ≠ t := by
  unfold dropT
  rw [List.mem_filter]
  exact ⟨fun h => ⟨h.1, of_decide_eq_true h.2⟩, fun h => ⟨h.1, decide_eq_true h.2⟩⟩
theorem drop_id {l : List Int} {t : Int} (h : t ∉ l) : dropT l t = l := List.filter_eq_self.mpr fun x hx => decide_eq_true fun e => h (e ▸ hx)
theorem drop_cons (l : List Int) (t : Int) : dropT (t :: l) t = dropT l t := by
  unfold dropT
  rw [List.filter_cons_of_neg]
  simp
theorem drop_snoc (l : List Int) (t : Int) : dropT (l ++ [t]) t = dropT l t := by
  unfold dropT
  rw [List.filter_append]
  simp
theorem drop_perm {l : List Int} (hn : l.Nodup) {t : Int} (h : t ∈ l) : (t :: dropT l t).Perm l := by
  obtain ⟨a, b, rfl⟩ := List.append_of_mem h
  have ha : t ∉ a := fun k => (List.nodup_append.mp hn).2.2 t k t (List.mem_cons_self) rfl
  have hb : t ∉ b := (List.nodup_cons.mp (List.nodup_append.mp hn).2.1).1
  have e : dropT (a ++ t :: b) t = a ++ b := by
    have e1 : dropT (a ++ t :: b) t = dropT a t ++ dropT (t :: b) t := List.filter_append ..
    rw [e1, drop_cons, drop_id ha, drop_id hb]
  rw [e]
  exact List.perm_middle.symm
theorem drop_sorted {l : List Int} (h : l.Pairwise (· ≤ ·)) (t : Int) : (dropT l t).Pairwise (· ≤ ·) := List.Pairwise.sublist List.filter_sublist h
theorem sortI_id {l : List Int} (h : l.Pairwise (· ≤ ·)) : sortI l = l := sorted_uniq (sortI_perm l) (sortI_sorted l) h
def otherS (s : Str) : Str := if isR s = true then "left" else "right"
section
variable {L : Lin} {S : Std} {i : Nat} {t : Int} {s : Str}
/-- what a possible move gives: q the next place -/
structure Step (L : Lin) (S : Std) (i q : Nat) (t : Int) (s : Str) : Prop where
  nb : nbT i s = (q : Int)
  back : nbT q (otherS s) = (i : Int)
  ne : q ≠ i
  il : i < S.length
  ql : q < S.length
  mem : t ∈ S.getD i []
  room : ((S.getD q []).length : Int) < (L.getD q z0).2
  leave : (L.getD i z0).1 = "yard" ∨ t = endT S i s
theorem step_of (hS : Scn L S) (hat : AtPl S t i) (hs : SideOk s) (h : canAt L S t s = true) : ∃ q, Step L S i q t s := by
  obtain ⟨q0, q1, q2, q3⟩ := can_room hat h
  have hl := hS.len
  have h0 := hat.1
  have hle : (L.getD i z0).1 = "yard" ∨ t = endT S i s := by
    rcases Bool.or_eq_true_iff.mp q3 with a | a
    · exact .inl (of_decide_eq_true a)
    · exact .inr (of_decide_eq_true a)
  rcases hs with rfl | rfl
  · have e : nbT i "left" = (i : Int) - 1 := rfl
    rw [e] at q0 q1 q2
    obtain ⟨q, rfl⟩ : ∃ q, i = q + 1 := ⟨i - 1, by omega⟩
    have e2 : ((q + 1 : Nat) : Int) - 1 = (q : Int) := by omega
    rw [e2] at q2
    refine ⟨q, by rw [e, e2], ?_, by omega, h0, by omega, hat.2.1, by simpa using q2, hle⟩
    show nbT q "right" = _
    show (q : Int) + 1 = _
    omega
  · have e : nbT i "right" = (i : Int) + 1 := rfl
    rw [e] at q0 q1 q2
    have e2 : (i : Int) + 1 = ((i + 1 : Nat) : Int) := by omega
    rw [e2] at q2
    refine ⟨i + 1, by rw [e, e2], ?_, by omega, h0, by omega, hat.2.1, by simpa using q2, hle⟩
    show nbT (i + 1 : Nat) "left" = _
    show ((i + 1 : Nat) : Int) - 1 = _
    omega
variable {q : Nat}
theorem gone_is (p : Step L S i q t s) : goneT L S i t s = (S.set i (dropT (S.getD i []) t)).set q (entT L S q t s) := by
  unfold goneT
  rw [p.nb, Int.toNat_natCast]
theorem gone_len (p : Step L S i q t s) : (goneT L S i t s).length = S.length := by rw [gone_is p, List.length_set, List.length_set]
theorem set_at {l : Std} {i : Nat} {a : List Int} (h : i < l.length) : (l.set i a).getD i [] = a := by
  rw [List.getD_eq_getElem?_getD, List.getElem?_set_self h]
  rfl
theorem set_ne {l : Std} {i j : Nat} {a : List Int} (h : i ≠ j) : (l.set i a).getD j [] = l.getD j [] := by
  rw [List.getD_eq_getElem?_getD, List.getElem?_set_ne h, ← List.getD_eq_getElem?_getD]
theorem gone_q (p : Step L S i q t s) : (goneT L S i t s).getD q [] = entT L S q t s := by
  rw [gone_is p, set_at (by rw [List.length_set]; exact p.ql)]
theorem gone_i (p : Step L S i q t s) : (goneT L S i t s).getD i [] = dropT (S.getD i []) t := by
  rw [gone_is p, set_ne p.ne, set_at p.il]
theorem gone_j (p : Step L S i q t s) {j : Nat} (h1 : j ≠ i) (h2 : j ≠ q) : (goneT L S i t s).getD j [] = S.getD j [] := by
  rw [gone_is p, set_ne (Ne.symm h2), set_ne (Ne.symm h1)]
theorem ent_perm : (entT L S q t s).Perm (t :: S.getD q []) := by
  unfold entT
  split
  · exact sortI_perm _
  · split
    · exact List.Perm.refl _
    · exact List.perm_append_singleton _ _
theorem not_q (hS : Scn L S) (p : Step L S i q t s) : t ∉ S.getD q [] := fun h => p.ne (std_one hS.nodup p.ql p.il h p.mem)
theorem drop_ent (hS : Scn L S) (p : Step L S i q t s) : dropT (entT L S q t s) t = S.getD q [] := by
  have hq := not_q hS p
  unfold entT
  split
  · rename_i hy
    have hso := hS.yard q (by have := p.ql; have := hS.len; omega) hy
    have h1 : (dropT (sortI (t :: S.getD q [])) t).Perm (S.getD q []) := by
      have := (sortI_perm (t :: S.getD q [])).filter (fun x => decide (x ≠ t))
      refine this.trans ?_
      have e : (t :: S.getD q []).filter (fun x => decide (x ≠ t)) = S.getD q [] := (drop_cons _ t).trans (drop_id hq)
      rw [e]
    exact sorted_uniq h1 (drop_sorted (sortI_sorted _) t) hso
  · split
    · rw [drop_cons, drop_id hq]
    · rw [drop_snoc, drop_id hq]
theorem ent_back (hS : Scn L S) (hs : SideOk s) (p : Step L S i q t s) : entT L (goneT L S i t s) i t (otherS s) = S.getD i [] := by
  have hn := place_nodup hS.nodup p.il
  have hm := p.mem
  unfold entT
  rw [gone_i p]
  split
  · rename_i hy
    exact sorted_uniq ((sortI_perm _).trans (drop_perm hn hm)) (sortI_sorted _) (hS.yard i (by have := p.il; have := hS.len; omega) hy)
  · rename_i hy
    have hl := p.leave.resolve_left hy
    rcases hs with rfl | rfl
    · have e : t = (S.getD i []).getD 0 0 := hl
      show t :: dropT (S.getD i []) t = S.getD i []
      cases hc : S.getD i [] with
      | nil => rw [hc] at hm; exact absurd hm (by simp)
      | cons x l =>
        rw [hc] at e hn
        have ex : t = x := e
        subst ex
        rw [drop_cons, drop_id (List.nodup_cons.mp hn).1]
    · have e : t = (S.getD i []).getD ((S.getD i []).length - 1) 0 := hl
      show dropT (S.getD i []) t ++ [t] = S.getD i []
      rcases List.eq_nil_or_concat (S.getD i []) with hc | ⟨l, x, hc⟩
      · rw [hc] at hm; exact absurd hm (by simp)
      · rw [List.concat_eq_append] at hc
        rw [hc, get_last] at e
        subst e
        rw [hc] at hn ⊢
        rw [drop_snoc, drop_id fun k => (List.nodup_append.mp hn).2.2 t k t List.mem_cons_self rfl]
theorem std_ext {A B : Std} (hl : A.length = B.length) (h : ∀ j, j < A.length → A.getD j [] = B.getD j []) : A = B := by
  refine List.ext_getElem hl fun j h1 h2 => ?_
  have := h j h1
  rw [List.getD_eq_getElem?_getD, List.getD_eq_getElem?_getD, List.getElem?_eq_getElem h1, List.getElem?_eq_getElem h2] at this
  exact this
theorem atPl_gone (hS : Scn L S) (p : Step L S i q t s) : AtPl (goneT L S i t s) t q := by
  refine ⟨by rw [gone_len p]; exact p.ql, ?_, fun j hj h => ?_⟩
  · rw [gone_q p]
    exact (ent_perm (L := L) (S := S)).mem_iff.mpr List.mem_cons_self
  · have hjl : j < S.length := by have := p.ql; omega
    by_cases e : j = i
    · rw [e, gone_i p] at h
      exact (drop_mem.mp h).2 rfl
    · rw [gone_j p e (by omega)] at h
      exact e (std_one hS.nodup hjl p.il h p.mem)
theorem back_is (hS : Scn L S) (hs : SideOk s) (p : Step L S i q t s) : goneT L (goneT L S i t s) q t (otherS s) = S := by
  have e : goneT L (goneT L S i t s) q t (otherS s) = ((goneT L S i t s).set q (S.getD q [])).set i (S.getD i []) := by
    have e1 : ∀ S' : Std, goneT L S' q t (otherS s) = (S'.set q (dropT (S'.getD q []) t)).set i (entT L S' i t (otherS s)) := fun S' => by
      unfold goneT
      rw [p.back, Int.toNat_natCast]
    rw [e1, ent_back hS hs p, gone_q p, drop_ent hS p]
  rw [e]
  refine std_ext (by rw [List.length_set, List.length_set, gone_len p]) fun j hj => ?_
  rw [List.length_set, List.length_set, gone_len p] at hj
  by_cases h1 : j = i
  · rw [h1, set_at (by rw [List.length_set, gone_len p]; exact p.il)]
  · rw [set_ne (Ne.symm h1)]
    by_cases h2 : j = q
    · rw [h2, set_at (by rw [gone_len p]; exact p.ql)]
    · rw [set_ne (Ne.symm h2), gone_j p h1 h2]
theorem set_len : ∀ {S : Std} {i : Nat} {a : List Int}, i < S.length → (S.set i a).flatten.length + (S.getD i []).length = S.flatten.length + a.length
  | l :: S, 0, a, _ => by
    show (a ++ S.flatten).length + l.length = (l ++ S.flatten).length + a.length
    rw [List.length_append, List.length_append]
    omega
  | l :: S, i + 1, a, h => by
    have ih := set_len (S := S) (i := i) (a := a) (by simpa using h)
    show (l ++ (S.set i a).flatten).length + (S.getD i []).length = (l ++ S.flatten).length + a.length
    rw [List.length_append, List.length_append]
    omega
theorem gone_many (p : Step L S i q t s) (hn : S.flatten.Nodup) : (goneT L S i t s).flatten.length = S.flatten.length := by
  have h1 := set_len (S := S) (a := dropT (S.getD i []) t) p.il
  have h2 := set_len (S := S.set i (dropT (S.getD i []) t)) (i := q) (a := entT L S q t s) (by rw [List.length_set]; exact p.ql)
  rw [set_ne p.ne.symm] at h2
  have h3 := (drop_perm (place_nodup hn p.il) p.mem).length_eq
  have h4 := (ent_perm (L := L) (S := S) (t := t) (s := s) (q := q)).length_eq
  rw [List.length_cons] at h3 h4
  rw [gone_is p]
  omega
theorem can_back (hS : Scn L S) (hs : SideOk s) (p : Step L S i q t s) : canAt L (goneT L S i t s) t (otherS s) = true := by
  have hl := hS.len
  have hil := p.il
  unfold canAt
  rw [pl_of (atPl_gone hS p)]
  unfold canB roomB
  rw [p.back, Int.toNat_natCast, gone_i p]
  have h3 := (drop_perm (place_nodup hS.nodup p.il) p.mem).length_eq
  rw [List.length_cons] at h3
  have h5 := hS.room i (by omega)
  rw [decide_eq_true (by omega : (0 : Int) ≤ i), decide_eq_true (by omega : (i : Int) < L.length), decide_eq_true (by omega : ((dropT (S.getD i []) t).length : Int) < (L.getD i z0).2)]
  show leaveB L (goneT L S i t s) q t (otherS s) = true
  unfold leaveB
  by_cases hy : (L.getD q z0).1 = "yard"
  · rw [decide_eq_true hy]; rfl
  · rw [decide_eq_false hy, Bool.false_or]
    refine decide_eq_true ?_
    unfold endT
    rw [gone_q p]
    unfold entT
    rw [if_neg hy]
    rcases hs with rfl | rfl
    · show t = (S.getD q [] ++ [t]).getD ((S.getD q [] ++ [t]).length - 1) 0
      rw [get_last]
    · rfl
end
theorem shaped_deep {n : Nat} {d : PyData} (h : Deep n d) (hn : n ≤ 60 := by decide) : SeqAt.shaped d = true := (deep_eq h hn).1.1
end Kx
end
section
set_option maxHeartbeats 4000000
namespace Kx
open PySem PySem.Spec PyProof.Rows L2 Dl
section
variable {L : Lin} {S : Std} {i q : Nat} {t : Int} {s : Str}
theorem set_count (x : Int) : ∀ {S : Std} {i : Nat} {a : List Int}, i < S.length → (S.set i a).flatten.count x + (S.getD i []).count x = S.flatten.count x + a.count x
  | [], _, _, h => by cases h
  | l :: S, 0, a, _ => by
    simp only [List.set_cons_zero, List.flatten_cons, List.count_append, List.getD_cons_zero]
    omega
  | l :: S, i + 1, a, h => by
    have := set_count x (S := S) (i := i) (a := a) (Nat.lt_of_succ_lt_succ h)
    simp only [List.set_cons_succ, List.flatten_cons, List.count_append, List.getD_cons_succ]
    omega
theorem gone_perm (hS : Scn L S) (p : Step L S i q t s) : (goneT L S i t s).flatten.Perm S.flatten := by
  rw [gone_is p]
  refine List.perm_iff_count.mpr fun x => ?_
  have h1 := set_count x (S := S) (i := i) (a := dropT (S.getD i []) t) p.il
  have h2 := set_count x (S := S.set i (dropT (S.getD i []) t)) (i := q) (a := entT L S q t s) (by rw [List.length_set]; exact p.ql)
  rw [set_ne (Ne.symm p.ne)] at h2
  have h3 := (ent_perm (L := L) (S := S) (q := q) (t := t) (s := s)).count_eq x
  have h4 := (drop_perm (place_nodup hS.nodup p.il) p.mem).count_eq x
  rw [List.count_cons] at h3 h4
  omega
theorem gone_scn (hS : Scn L S) (p : Step L S i q t s) : Scn L (goneT L S i t s) where
  len := by rw [gone_len p, hS.len]
  nodup := (gone_perm hS p).nodup_iff.mpr hS.nodup
  nonneg := fun x hx => hS.nonneg x ((gone_perm hS p).mem_iff.mp hx)
  room := fun j hj => by
    by_cases h1 : j = q
    · subst h1
      rw [gone_q p]
      have h2 := (ent_perm (L := L) (S := S) (q := j) (t := t) (s := s)).length_eq
      rw [List.length_cons] at h2
      have := p.room
      omega
    · by_cases h2 : j = i
      · subst h2
        rw [gone_i p]
        have := drop_len (S.getD j []) t
        have := hS.room j hj
        omega
      · rw [gone_j p h2 h1]
        exact hS.room j hj
  yard := fun j hj hy => by
    by_cases h1 : j = q
    · subst h1
      rw [gone_q p]
      unfold entT
      rw [if_pos hy]
      exact sortI_sorted _
    · by_cases h2 : j = i
      · subst h2
        rw [gone_i p]
        exact drop_sorted (hS.yard j hj hy) t
      · rw [gone_j p h2 h1]
        exact hS.yard j hj hy
end
/-- what a row of moves comes to -/
inductive RR where
  | ok (S : Std)
  | nt (t : Int)
  | bl (t : Int) (s : Str)
abbrev Row : Type := List (Int × Str)
def runT (L : Lin) : Std → Row → RR
  | S, [] => .ok S
  | S, (t, s) :: r => if t ∈ S.flatten then (if canAt L S t s = true then runT L (goneT L S (plT S t) t s) r else .bl t s) else .nt t
def rowD (r : Row) : List PyData := r.map fun p => hopD p.1 p.2
def sidesOk (r : Row) : Prop := ∀ p ∈ r, SideOk p.2
/-- the row that takes r back -/
def backT (r : Row) : Row := r.reverse.map fun p => (p.1, otherS p.2)
end Kx
namespace Kx
open PySem PySem.Spec PyProof.Rows L2 Dl
theorem row_at {r : Row} (hs : sidesOk r) {i : Nat} (h : i < r.length) : ∃ t s, r.getD i (0, "left") = (t, s) ∧ SideOk s :=
  ⟨_, _, rfl, hs _ (getD_mem2 _ h)⟩
theorem runT_nil (L : Lin) (S : Std) : runT L S [] = .ok S := rfl
theorem runT_cons (L : Lin) (S : Std) (t : Int) (s : Str) (r : Row) : runT L S ((t, s) :: r) = if t ∈ S.flatten then (if canAt L S t s = true then runT L (goneT L S (plT S t) t s) r else .bl t s) else .nt t := by rw [runT]
theorem drop_row {r : Row} {i : Nat} (h : i < r.length) : r.drop i = r.getD i (0, "left") :: r.drop (i + 1) := by
  rw [List.getD_eq_getElem?_getD, List.getElem?_eq_getElem h]
  exact List.drop_eq_getElem_cons h
end Kx
namespace Kx
open PySem PySem.Spec PyProof.Rows L2 Dl
theorem row_len (r : Row) : (rowD r).length = r.length := by
  unfold rowD
  rw [List.length_map]
end Kx
namespace Kx
open PySem PySem.Spec PyProof.Rows L2 Dl
theorem runT_app (L : Lin) : ∀ {a b : Row} {S S1 : Std}, runT L S a = .ok S1 → runT L S (a ++ b) = runT L S1 b
  | [], b, S, S1, h => by
    rw [runT_nil] at h
    cases h
    rfl
  | (t, s) :: a, b, S, S1, h => by
    rw [List.cons_append, runT_cons]
    rw [runT_cons] at h
    split at h
    · rename_i h1
      rw [if_pos h1]
      split at h
      · rename_i h2
        rw [if_pos h2]
        exact runT_app L h
      · cases h
    · cases h
/-- a row of possible moves and the one that takes it back -/
structure Tour (L : Lin) (S S' : Std) (r : Row) : Prop where
  run : runT L S r = .ok S'
  bk : runT L S' (backT r) = .ok S
  sides : sidesOk r
  scn : Scn L S'
  perm : S'.flatten.Perm S.flatten
  small : ∀ p ∈ r, 0 ≤ p.1 ∧ p.1 < 2 ^ 40
theorem tour_nil {L : Lin} {S : Std} (h : Scn L S) : Tour L S S [] := ⟨rfl, rfl, fun _ h => absurd h (by simp), h, .refl _, fun _ h => absurd h (by simp)⟩
theorem tour_snoc {L : Lin} {S S1 : Std} {r : Row} {t : Int} {s : Str} (T : Tour L S S1 r) (ht : t ∈ S1.flatten) (hs : SideOk s) (hc : canAt L S1 t s = true) : Tour L S (goneT L S1 (plT S1 t) t s) (r ++ [(t, s)]) := by
  obtain ⟨i, hat⟩ := atPl_of ht
  obtain ⟨q, pq⟩ := step_of T.scn hat hs hc
  have ep := pl_of hat
  refine ⟨?_, ?_, ?_, ?_, ?_, ?_⟩
  · rw [runT_app L T.run, runT_cons, if_pos ht, if_pos hc, runT_nil]
  · have e : backT (r ++ [(t, s)]) = (t, otherS s) :: backT r := by
      unfold backT
      rw [List.reverse_append]
      rfl
    have hat2 := atPl_gone T.scn pq
    rw [e, ep, runT_cons, if_pos (std_at hat2.1 hat2.2.1), if_pos (can_back T.scn hs pq), pl_of hat2, back_is T.scn hs pq]
    exact T.bk
  · intro p hp
    rcases List.mem_append.mp hp with h | h
    · exact T.sides p h
    · rw [List.mem_singleton] at h
      subst h
      exact hs
  · rw [ep]
    exact gone_scn T.scn pq
  · rw [ep]
    exact (gone_perm T.scn pq).trans T.perm
  · intro p hp
    rcases List.mem_append.mp hp with h | h
    · exact T.small p h
    · rw [List.mem_singleton] at h
      subst h
      exact T.scn.nonneg t ht
end Kx
namespace Kx
open PySem PySem.Spec PyProof.Rows L2 Dl
theorem sides_app {a b : Row} (h : sidesOk a) (k : sidesOk b) : sidesOk (a ++ b) := fun p hp => (List.mem_append.mp hp).elim (h p) (k p)
end Kx
end
section
set_option maxHeartbeats 4000000
namespace Kx
open PySem PySem.Spec PyProof.Rows L2 Dl
def topS (i : Nat) : Stmt := PySem.Challenge.pw_passyards_k25_where_trains_can_go.main.body.getD i (.Pass ⟨0, 0, 0, 0⟩)
abbrev s_capacity : Stmt := topS 6
theorem sc_capacity : FnScope ["line", "_", "size"] ["line"] (defScope s_capacity) := ⟨rfl, rfl, rfl, by decide +kernel, rfl, by decide +kernel, by decide +kernel⟩
abbrev s_order : Stmt := topS 8
theorem sc_order : FnScope ["line", "standing", "held", "train"] ["line", "standing"] (defScope s_order) := ⟨rfl, rfl, rfl, by decide +kernel, rfl, by decide +kernel, by decide +kernel⟩
abbrev s_spans : Stmt := topS 9
theorem sc_spans : FnScope ["line", "many", "found", "high", "rest", "_", "size", "low"] ["line", "many"] (defScope s_spans) := ⟨rfl, rfl, rfl, by decide +kernel, rfl, by decide +kernel, by decide +kernel⟩
abbrev s_mixing_spans : Stmt := topS 10
theorem sc_mixing_spans : FnScope ["line", "many", "kind", "size", "span"] ["line", "many"] (defScope s_mixing_spans) := ⟨rfl, rfl, rfl, by decide +kernel, rfl, by decide +kernel, by decide +kernel⟩
abbrev s_joints : Stmt := topS 11
theorem sc_joints : FnScope ["line", "many", "mixing", "at", "low", "high"] ["line", "many"] (defScope s_joints) := ⟨rfl, rfl, rfl, by decide +kernel, rfl, by decide +kernel, by decide +kernel⟩
abbrev s_blocks : Stmt := topS 12
theorem sc_blocks : FnScope ["line", "many", "joined", "found", "first", "at"] ["line", "many"] (defScope s_blocks) := ⟨rfl, rfl, rfl, by decide +kernel, rfl, by decide +kernel, by decide +kernel⟩
abbrev s_blocks_at : Stmt := topS 13
theorem sc_blocks_at : FnScope ["line", "many", "found", "block", "first", "last", "low", "high"] ["line", "many"] (defScope s_blocks_at) := ⟨rfl, rfl, rfl, by decide +kernel, rfl, by decide +kernel, by decide +kernel⟩
abbrev s_groups : Stmt := topS 14
theorem sc_groups : FnScope ["line", "standing", "row", "first", "last"] ["line", "standing"] (defScope s_groups) := ⟨rfl, rfl, rfl, by decide +kernel, rfl, by decide +kernel, by decide +kernel⟩
abbrev s_block_of : Stmt := topS 15
theorem sc_block_of : FnScope ["line", "standing", "train", "block", "group"] ["line", "standing", "train"] (defScope s_block_of) := ⟨rfl, rfl, rfl, by decide +kernel, rfl, by decide +kernel, by decide +kernel⟩
abbrev s_places_of : Stmt := topS 17
theorem sc_places_of : FnScope ["line", "standing", "train", "block", "reached", "place", "found"] ["line", "standing", "train"] (defScope s_places_of) := ⟨rfl, rfl, rfl, by decide +kernel, rfl, by decide +kernel, by decide +kernel⟩
abbrev s_may_meet : Stmt := topS 18
theorem sc_may_meet : FnScope ["line", "standing", "one", "other"] ["line", "standing", "one", "other"] (defScope s_may_meet) := ⟨rfl, rfl, rfl, by decide +kernel, rfl, by decide +kernel, by decide +kernel⟩
abbrev s_ever_ahead : Stmt := topS 19
theorem sc_ever_ahead : FnScope ["line", "standing", "one", "other"] ["line", "standing", "one", "other"] (defScope s_ever_ahead) := ⟨rfl, rfl, rfl, by decide +kernel, rfl, by decide +kernel, by decide +kernel⟩
abbrev s_cell_at : Stmt := topS 21
theorem sc_cell_at : FnScope ["_law_script", "_law_k"] ["_law_script", "_law_k"] (defScope s_cell_at) := ⟨rfl, rfl, rfl, by decide +kernel, rfl, by decide +kernel, by decide +kernel⟩
abbrev s_box : Stmt := topS 22
theorem sc_box : FnScope ["_law_script", "_law_k", "_law_core"] ["_law_script", "_law_k"] (defScope s_box) := ⟨rfl, rfl, rfl, by decide +kernel, rfl, by decide +kernel, by decide +kernel⟩
abbrev s_take : Stmt := topS 23
theorem sc_take : FnScope ["_law_box_here", "_law_span", "_law_found", "_law_once", "_law_twice"] ["_law_box_here", "_law_span"] (defScope s_take) := ⟨rfl, rfl, rfl, by decide +kernel, rfl, by decide +kernel, by decide +kernel⟩
abbrev s_of : Stmt := topS 24
theorem sc_of : FnScope ["_law_box_here", "_law_some"] ["_law_box_here", "_law_some"] (defScope s_of) := ⟨rfl, rfl, rfl, by decide +kernel, rfl, by decide +kernel, by decide +kernel⟩
abbrev s_same : Stmt := topS 25
theorem sc_same : FnScope ["_law_found", "_law_due", "_law_a", "_law_b"] ["_law_found", "_law_due"] (defScope s_same) := ⟨rfl, rfl, rfl, by decide +kernel, rfl, by decide +kernel, by decide +kernel⟩
abbrev s_lists : Stmt := topS 26
theorem sc_lists : FnScope ["_law_part", "_law_piece"] ["_law_part"] (defScope s_lists) := ⟨rfl, rfl, rfl, by decide +kernel, rfl, by decide +kernel, by decide +kernel⟩
abbrev s_strewn : Stmt := topS 27
theorem sc_strewn : FnScope ["_law_box_here", "_law_some", "_law_left", "_law_found"] ["_law_box_here", "_law_some"] (defScope s_strewn) := ⟨rfl, rfl, rfl, by decide +kernel, rfl, by decide +kernel, by decide +kernel⟩
abbrev s_rail : Stmt := topS 28
theorem sc_rail : FnScope ["_law_box_here", "_law_most", "_law_top", "_law_total_here", "_law_bias", "_law_found", "_law_at", "_law_label"] ["_law_box_here", "_law_most", "_law_top"] (defScope s_rail) := ⟨rfl, rfl, rfl, by decide +kernel, rfl, by decide +kernel, by decide +kernel⟩
abbrev s_total : Stmt := topS 29
theorem sc_total : FnScope ["_law_rail_here", "_law_label", "_law_top"] ["_law_rail_here"] (defScope s_total) := ⟨rfl, rfl, rfl, by decide +kernel, rfl, by decide +kernel, by decide +kernel⟩
abbrev s_ids : Stmt := topS 30
theorem sc_ids : FnScope ["_law_box_here", "_law_count_here", "_law_gap", "_law_top", "_law_found", "_law_at"] ["_law_box_here", "_law_count_here"] (defScope s_ids) := ⟨rfl, rfl, rfl, by decide +kernel, rfl, by decide +kernel, by decide +kernel⟩
abbrev s_numbers : Stmt := topS 31
theorem sc_numbers : FnScope ["_law_box_here", "_law_rail_here", "_law_count_here", "_law_found", "_law_turn", "_law_at", "_law_k", "_law_label", "_law_top"] ["_law_box_here", "_law_rail_here", "_law_count_here"] (defScope s_numbers) := ⟨rfl, rfl, rfl, by decide +kernel, rfl, by decide +kernel, by decide +kernel⟩
abbrev s_parked : Stmt := topS 32
theorem sc_parked : FnScope ["_law_rail_here", "_law_row_up", "_law_numbers_here", "_law_found", "_law_at", "_law_label", "_law_top", "_law_some", "_law_part"] ["_law_rail_here", "_law_row_up", "_law_numbers_here"] (defScope s_parked) := ⟨rfl, rfl, rfl, by decide +kernel, rfl, by decide +kernel, by decide +kernel⟩
abbrev s_count : Stmt := topS 33
theorem sc_count : FnScope ["_law_box_here", "_law_rail_here", "_law_most", "_law_full"] ["_law_box_here", "_law_rail_here", "_law_most"] (defScope s_count) := ⟨rfl, rfl, rfl, by decide +kernel, rfl, by decide +kernel, by decide +kernel⟩
abbrev s_scene : Stmt := topS 34
theorem sc_scene : FnScope ["_law_box_here", "_law_most", "_law_top", "_law_carts_here", "_law_rail_here", "_law_count_here"] ["_law_box_here", "_law_most", "_law_top", "_law_carts_here"] (defScope s_scene) := ⟨rfl, rfl, rfl, by decide +kernel, rfl, by decide +kernel, by decide +kernel⟩
abbrev s_carts : Stmt := topS 35
theorem sc_carts : FnScope ["_law_park", "_law_found", "_law_some"] ["_law_park"] (defScope s_carts) := ⟨rfl, rfl, rfl, by decide +kernel, rfl, by decide +kernel, by decide +kernel⟩
abbrev s_spot : Stmt := topS 36
theorem sc_spot : FnScope ["_law_park", "_law_cart", "_law_at", "_law_some"] ["_law_park", "_law_cart"] (defScope s_spot) := ⟨rfl, rfl, rfl, by decide +kernel, rfl, by decide +kernel, by decide +kernel⟩
abbrev s_can : Stmt := topS 37
theorem sc_can : FnScope ["_law_rail_here", "_law_park", "_law_cart", "_law_way", "_law_at", "_law_there"] ["_law_rail_here", "_law_park", "_law_cart", "_law_way"] (defScope s_can) := ⟨rfl, rfl, rfl, by decide +kernel, rfl, by decide +kernel, by decide +kernel⟩
abbrev s_gone : Stmt := topS 38
theorem sc_gone : FnScope ["_law_rail_here", "_law_park", "_law_cart", "_law_way", "_law_at", "_law_found", "_law_there", "_law_its", "_law_more"] ["_law_rail_here", "_law_park", "_law_cart", "_law_way"] (defScope s_gone) := ⟨rfl, rfl, rfl, by decide +kernel, rfl, by decide +kernel, by decide +kernel⟩
abbrev s_hops : Stmt := topS 39
theorem sc_hops : FnScope ["_law_rail_here", "_law_park", "_law_found", "_law_cart", "_law_way"] ["_law_rail_here", "_law_park"] (defScope s_hops) := ⟨rfl, rfl, rfl, by decide +kernel, rfl, by decide +kernel, by decide +kernel⟩
abbrev s_reached : Stmt := topS 40
theorem sc_reached : FnScope ["_law_rail_here", "_law_park", "_law_most", "_law_found", "_law_layer", "_law_later", "_law_here", "_law_cart", "_law_way", "_law_there"] ["_law_rail_here", "_law_park", "_law_most"] (defScope s_reached) := ⟨rfl, rfl, rfl, by decide +kernel, rfl, by decide +kernel, by decide +kernel⟩
abbrev s_ahead : Stmt := topS 41
theorem sc_ahead : FnScope ["_law_rail_here", "_law_park", "_law_first", "_law_second", "_law_here", "_law_there"] ["_law_rail_here", "_law_park", "_law_first", "_law_second"] (defScope s_ahead) := ⟨rfl, rfl, rfl, by decide +kernel, rfl, by decide +kernel, by decide +kernel⟩
abbrev s_together : Stmt := topS 42
theorem sc_together : FnScope ["_law_rail_here", "_law_park", "_law_first", "_law_second", "_law_here"] ["_law_rail_here", "_law_park", "_law_first", "_law_second"] (defScope s_together) := ⟨rfl, rfl, rfl, by decide +kernel, rfl, by decide +kernel, by decide +kernel⟩
abbrev s_missing : Stmt := topS 43
theorem sc_missing : FnScope ["_law_kind", "_law_rail_here", "_law_park", "_law_first", "_law_second", "_law_caught", "error"] ["_law_kind", "_law_rail_here", "_law_park", "_law_first", "_law_second"] (defScope s_missing) := ⟨rfl, rfl, rfl, by decide +kernel, rfl, by decide +kernel, by decide +kernel⟩
abbrev s_right : Stmt := topS 44
theorem sc_right : FnScope ["_law_box_here", "_law_rail_here", "_law_park", "_law_found", "_law_every", "_law_soft", "_law_first", "_law_due", "_law_there", "_law_told", "_law_second", "_law_cart", "_law_odd", "_law_here", "_law_kind"] ["_law_box_here"] (defScope s_right) := ⟨rfl, rfl, rfl, by decide +kernel, rfl, by decide +kernel, by decide +kernel⟩
abbrev s_law : Stmt := topS 45
theorem sc_law : FnScope ["_law_script", "_law_k"] ["_law_script"] (defScope s_law) := ⟨rfl, rfl, rfl, by decide +kernel, rfl, by decide +kernel, by decide +kernel⟩
def clsB : Stmt → List Stmt
  | .ClassDef (body := b) .. => b
  | _ => []
abbrev s_iNoTrain : Stmt := (clsB (topS 1)).getD 0 (.Pass ⟨0, 0, 0, 0⟩)
theorem sc_iNoTrain : FnScope ["self", "train"] ["self", "train"] (defScope s_iNoTrain) := ⟨rfl, rfl, rfl, by decide +kernel, rfl, by decide +kernel, by decide +kernel⟩
structure Blt (mg : Str → Option Value) : Prop where
  len : mg "len" = none
  abs : mg "abs" = none
  sum : mg "sum" = none
  sorted : mg "sorted" = none
  all : mg "all" = none
  any : mg "any" = none
  list : mg "list" = none
  tuple : mg "tuple" = none
  int : mg "int" = none
  min : mg "min" = none
  max : mg "max" = none
  range : mg "range" = none
  zip : mg "zip" = none
  enumerate : mg "enumerate" = none
  isinstance : mg "isinstance" = none
  bool : mg "bool" = none
  str : mg "str" = none
  repr : mg "repr" = none
  set : mg "set" = none
  LookupError : mg "LookupError" = none
  RuntimeError : mg "RuntimeError" = none
  ValueError : mg "ValueError" = none
  OverflowError : mg "OverflowError" = none
  reversed : mg "reversed" = none
section
variable {P : Program} {w : World} {K : PySem.W.Frag} {mg : Str → Option Value} {base : Heap}
theorem can_take (D : At K mg "_law_take" s_take ["_law_box_here", "_law_span"]) : Can P w K mg base 1 "_law_take" ["_law_box_here", "_law_span"] (spB K 1 phTake) := by
  obtain ⟨f, fd, Fd, h2, h3⟩ := D
  refine ⟨f, fd, h2, Fd.kp, h3, Fd.ok sc_take (fun vs H Q E h => ?_) (fun cdv A outer s H vs Q E hr h => ?_)⟩
  · obtain ⟨G0, p, m, ds, vr, F, Kt, rfl, e1, e2, _⟩ := h
    rw [List.length_cons, e1, e2]
    rfl
  · obtain ⟨G0, p, m, ds, vr, F, Kt, rfl, e1, e2, r, ⟨span, rfl, z1, z2, z3, ph⟩, q⟩ := h
    obtain ⟨v1, rfl⟩ : ∃ v1, vr = [v1] := by
      match vr, e1 with
      | [v1], _ => exact ⟨v1, rfl⟩
    have r1 : R K G0 H ((v1, .fz (.int span)) :: (V.ref p, .box p m) :: F) := r.perm (.swap _ _ _)
    obtain rfl := R.int r1
    obtain ⟨_, a, b, c, hp, a0, b0, b1, c0, c1, wr⟩ := r1.tail.draw
    refine ⟨_, pss_cons (ps_if (pt_cmpR op_gt (pe_ix ix_list (pv 0) pe_int (fun _ _ => rfl)) pe_int (nomark _))
        (pss_cons (ps_set (i := 2) sc_take.nd rfl (.inl rfl) (pe_op op_mod (pe_ix ix_list (pv 0) pe_int (fun _ _ => rfl)) (pv 1)))
          (pss_cons (ps_asg (pe_op op_fdiv (pe_ix ix_list (pv 0) pe_int (fun _ _ => rfl)) (pv 1)) (pg_sub (pv 0) pe_int set_list)) (pss_one (ps_ret (pv 2))))) pss_nil)
      (pss_cons (ps_asg (pe_op op_add (pe_ix ix_list (pv 0) pe_int (fun _ _ => rfl)) pe_int) (pg_sub (pv 0) pe_int set_list))
      (pss_cons (ps_set (i := 3) sc_take.nd rfl (.inl rfl) (pe_op op_mod (pe_op op_mul (pe_op op_add (pe_ix ix_list (pv 0) pe_int (fun _ _ => rfl)) (pe_op op_mul pe_int (pe_ix ix_list (pv 0) pe_int (fun _ _ => rfl)))) (pe_op op_add pe_int (pe_ix ix_list (pv 0) pe_int (fun _ _ => rfl)))) pe_int))
      (pss_cons (ps_set (i := 4) sc_take.nd rfl (.inl rfl) (pe_op op_mod (pe_op op_mul (pe_op op_add (pe_op op_add (pv 3) (pe_ix ix_list (pv 0) pe_int (fun _ _ => rfl))) (pe_op op_fdiv (pe_ix ix_list (pv 0) pe_int (fun _ _ => rfl)) pe_int)) (pe_op op_add (pe_op op_mod (pv 3) pe_int) pe_int)) pe_int))
      (pss_one (ps_ret (pe_op op_mod (pe_op op_fdiv (pe_op op_mod (pe_op op_add (pe_op op_mul (pv 4) pe_int) (pv 3)) pe_int) pe_int) (pv 1))))))), ?_⟩
    have c2 : c + 1 ≤ ((m + 1 : Nat) : Int) := by omega
    refine ⟨_, rfl, p, _, _, _, rfl, rfl, SqL.of hp, rfl, ⟨a, 0, rfl, rfl, _, rfl, ite2 (fun g => ?_) (fun g => ?_)⟩⟩
    · have g : 0 < a := of_decide_eq_true g
      refine ⟨_, rfl, p, _, _, _, rfl, rfl, SqL.of hp, rfl, ⟨_, rfl, a, span, rfl, rfl, z1, ?_⟩⟩
      refine ⟨_, rfl, p, _, _, _, rfl, rfl, SqL.of hp, rfl, ⟨_, rfl, a, span, rfl, rfl, ⟨z1, z2⟩, ?_⟩⟩
      refine ⟨_, rfl, p, _, 0, 0, rfl, rfl, hp, rfl, ?_⟩
      refine ⟨_, rfl, ?_⟩
      have r2 := wr (a / span) b c (m + 1) (Int.ediv_nonneg (Int.le_of_lt g) (Int.le_of_lt z1)) b0 b1 c0 (by omega)
      exact q _ _ _ _ (ph (a % span) (Int.emod_nonneg _ (by omega)) (Int.emod_lt_of_pos _ z1)) (by intro _ z; cases z) (r2.add fun _ => .int _)
    · have r2 := wr a b (c + 1) (m + 1) a0 b0 b1 (by omega) c2
      generalize hH : upd H p (.lst [.int a, .int b, .int (c + 1)]) = H2 at r2
      have hp2 : H2 p = some (.lst [.int a, .int b, .int (c + 1)]) := by rw [← hH]; exact upd_same
      refine ⟨_, rfl, p, _, _, _, rfl, rfl, SqL.of hp, rfl, ⟨c, 1, rfl, rfl, ?_⟩⟩
      refine ⟨_, rfl, p, _, 2, 2, rfl, rfl, hp, rfl, ?_⟩
      show (tSeq _ _) _ _ (upd H p (.lst [.int a, .int b, .int (c + 1)]))
      rw [hH]
      refine ⟨_, rfl, p, _, _, _, rfl, rfl, SqL.of hp2, rfl, ⟨_, rfl, p, _, _, _, rfl, rfl, SqL.of hp2, rfl, ⟨48271, c + 1, rfl, rfl, .inl ⟨by omega, by omega⟩, b, 48271 * (c + 1), rfl, rfl, _, rfl, p, _, _, _, rfl, rfl, SqL.of hp2, rfl, ⟨39373, c + 1, rfl, rfl, b + 48271 * (c + 1), 39373 + (c + 1), rfl, rfl, .inr ⟨by omega, by omega⟩, _, 2147483647, rfl, rfl, (by show (0 : Int) < 2147483647; decide), ?_⟩⟩⟩⟩
      refine ⟨_, rfl, _, rfl, p, _, _, _, rfl, rfl, SqL.of hp2, rfl, ⟨_, c + 1, rfl, rfl, _, rfl, p, _, _, _, rfl, rfl, SqL.of hp2, rfl, ⟨b, 1000003, rfl, rfl, ⟨by decide, by decide⟩, _, b / 1000003, rfl, rfl, _, rfl, _, 40009, rfl, rfl, (by show (0 : Int) < 40009; decide), _, 7, rfl, rfl, _, _, rfl, rfl, .inr ⟨by omega, by omega⟩, _, 2147483629, rfl, rfl, (by show (0 : Int) < 2147483629; decide), ?_⟩⟩⟩
      refine ⟨_, rfl, _, 48271, rfl, rfl, .inr ⟨by decide, by decide⟩, _, rfl, _, _, rfl, rfl, _, 2147483587, rfl, rfl, (by show (0 : Int) < 2147483587; decide), _, 64, rfl, rfl, ⟨by decide, by decide⟩, _, rfl, _, span, rfl, rfl, z1, ?_⟩
      exact q _ _ _ _ (ph _ (Int.emod_nonneg _ (by omega)) (Int.emod_lt_of_pos _ z1)) (by intro _ z; cases z) (r2.add fun _ => .int _)
end
end Kx
end
section
namespace Dl
open PySem PySem.Spec PyProof.Rows L2
end Dl
end
section
namespace Dl
open PySem PySem.Spec PyProof.Rows L2
end Dl
end
section
namespace Dl
open PySem PySem.Spec PyProof.Rows L2
theorem lc_at {Γ1 : Gm} {B : (Nat → List PyData → Gm → Prop) → Prop} (f : Nat → List PyData) (h0 : f 0 = []) (h : B (fun i acc Γ => acc = f i ∧ Γ = Γ1)) : ∃ Iv : Nat → List PyData → Gm → Prop, Iv 0 [] Γ1 ∧ B Iv := ⟨_, ⟨h0.symm, rfl⟩, h⟩
theorem lcx_at {Γ1 : Gm} {B : (Nat → List PyData → Gm → Prop) → Prop} (M : Gm → Nat → List PyData → Gm → Prop) (h0 : M Γ1 0 [] Γ1) (h : B (M Γ1)) : ∃ Iv : Nat → List PyData → Gm → Prop, Iv 0 [] Γ1 ∧ B Iv := ⟨M Γ1, h0, h⟩
theorem norm_ex {Γ1 Γn : Gm} {B : (Nat → Gm → Prop) → Prop} (hn : Γ1 = Γn) (h : ∃ Iv : Nat → Gm → Prop, Iv 0 Γn ∧ B Iv) : ∃ Iv : Nat → Gm → Prop, Iv 0 Γ1 ∧ B Iv := hn ▸ h
theorem norm_lc {Γ1 Γn : Gm} {B : (Nat → List PyData → Gm → Prop) → Prop} (hn : Γ1 = Γn) (h : ∃ Iv : Nat → List PyData → Gm → Prop, Iv 0 [] Γn ∧ B Iv) : ∃ Iv : Nat → List PyData → Gm → Prop, Iv 0 [] Γ1 ∧ B Iv := hn ▸ h
end Dl
end
section
namespace Dl
open PySem PySem.Spec PyProof.Rows L2
def frz : Gm → List Nat → (Gm → Prop) → Prop
  | Γ, [], k => k Γ
  | Γ, i :: is, k => match get Γ i with
    | some u => (match see u with
      | some d => frz (put Γ i (some (.fz d))) is k
      | none => False)
    | none => False
section
variable {K : PySem.W.Frag} {G0 H : Hp} {T F : Ent} {σ : Sl}
theorem Rel.frozen : ∀ {is : List Nat} {Γ : Gm} {k : Gm → Prop}, Rel K G0 T F σ H Γ → frz Γ is k → ∃ Γ', k Γ' ∧ Rel K G0 T F σ H Γ'
  | [], Γ, _, r, h => ⟨Γ, h, r⟩
  | i :: is, Γ, k, r, h => by
    have h : (match get Γ i with | some u => (match see u with | some d => frz (put Γ i (some (.fz d))) is k | none => False) | none => False) := h
    cases q : get Γ i with
    | none => rw [q] at h; exact h.elim
    | some u =>
      rw [q] at h
      have h : (match see u with | some d => frz (put Γ i (some (.fz d))) is k | none => False) := h
      cases q2 : see u with
      | none => rw [q2] at h; exact h.elim
      | some d =>
        rw [q2] at h
        obtain ⟨w, h1, h2, h3⟩ := r.out q
        exact Rel.frozen (is := is) (Rel.back h3 r.al (get_lt q) h1 (h2.freeze q2)) h
end
section
variable {X : Cx} {e : Expr} {st : Stmt} {τ : TEd} {t : TSd}
def dFrzS (is : List Nat) (t : TSd) : TSd := fun E Γ => frz Γ is fun Γ1 => t E Γ1
theorem ds_frz (is : List Nat) (h : DS X st t) : DS X st (dFrzS is t) := psI h fun D σ H ⟨G0, Γ, F, E, R1, k, q⟩ => by
  obtain ⟨Γ1, k1, R2⟩ := R1.frozen k
  exact ⟨G0, Γ1, F, E, R2, k1, q⟩
end
end Dl
namespace Dl
def puts : Gm → List (Nat × Option O) → Gm
  | Γ, [] => Γ
  | Γ, (i, o) :: r => puts (put Γ i o) r
end Dl
end
section
namespace Dl
open PySem PySem.Spec PyProof.Rows L2
section
variable {X : Cx} {pos p : Pos} {e : Expr} {es : List Expr} {τs : TAd} {n k : Nat} {φb : Nat → List PyData → (O → Nat → Prop) → Prop} {x : Str} {f : Addr} {fd : FuncData} {ps : List Str}
def onBoxN (n : Nat) (φ : Nat → List PyData → (O → Nat → Prop) → Prop) (Kt : O → Gm → Prop) (Γ1 : Gm) (os : List O) : Prop := match os with
  | o :: os1 => isBox 0 o ∧ escs Γ1 os1 fun ds Γ2 => ds.length = n ∧ φ 0 ds fun o _ => Kt o Γ2
  | [] => False
def dCallBN (n : Nat) (φ : Nat → List PyData → (O → Nat → Prop) → Prop) (t : TAd) : TEd := fun Γ Kt => t Γ fun os Γ1 => onBoxN n φ Kt Γ1 os
theorem useBN {G0 : Hp} {Γ : Gm} {T F : Ent} {σ : Sl} {H : Hp} {vs : List V} {os : List O} {Kt : O → Gm → Prop} {Q : VK} {E : XK} (hl : vs.length = os.length) (R2 : Rel X.K G0 (vs.zip os ++ T) F σ H Γ)
    (k1 : onBoxN n φb Kt Γ os) (q : ∀ o Γ' v H', Kt o Γ' → Rel X.K G0 ((v, o) :: T) F σ H' Γ' → Q v H') : spB X.K n φb vs H Q E := by
  cases os with
  | nil => exact k1.elim
  | cons oh os1 =>
    obtain ⟨⟨a, b, c, rfl, h1, h2, h3, h4, h5⟩, k2⟩ := (show isBox 0 oh ∧ escs Γ os1 (fun ds Γ2 => ds.length = n ∧ φb 0 ds fun o _ => Kt o Γ2) from k1)
    obtain ⟨v, vr, rfl⟩ : ∃ v r, vs = v :: r := by
      cases vs with
      | nil => cases hl
      | cons v r => exact ⟨v, r, rfl⟩
    have R2 : Rel X.K G0 ((v, .own [.int a, .int b, .int c]) :: (vr.zip os1 ++ T)) F σ H Γ := R2
    obtain ⟨p, r3⟩ := R.toBox (n := 0) R2.r h1 h2 h3 h4 h5
    obtain ⟨rfl, _⟩ := r3.draw
    have R3 : Rel X.K G0 ((.ref p, .box p 0) :: (vr.zip os1 ++ T)) F σ H Γ := ⟨R2.fit, R2.al.tail.cons (fun _ z => nomatch z), r3⟩
    obtain ⟨ds, Γ2, ⟨e1, e3⟩, hl2, R4⟩ := Rel.escapes (Nat.succ.inj hl) R3.toF' k2
    refine ⟨G0, p, 0, ds, vr, T ++ (ents σ Γ2 ++ F), _, rfl, hl2, e1, ?_, e3, fun o m' u H' k3 n1 r => q o Γ2 u H' k3 ?_⟩
    · refine R4.r.perm ?_
      rw [List.append_assoc]
      have q : (fzs vr ds ++ (T ++ (ents σ Γ2 ++ (V.ref p, O.box p 0) :: F))).Perm ((V.ref p, O.box p 0) :: (fzs vr ds ++ (T ++ (ents σ Γ2 ++ F)))) := by
        rw [← List.append_assoc, ← List.append_assoc, ← List.append_assoc, ← List.append_assoc]
        exact List.perm_middle
      exact q
    · exact ⟨R4.fit, AlOk.cons (fun w j mm => R2.al w j (List.mem_cons_of_mem _ (List.mem_append_right _ mm))) n1, R.tail (r.perm (.swap _ _ _))⟩
theorem de_canBN {j k : Nat} (C : Can X.prog X.w X.K X.mg X.base j x ps (spB X.K n φb)) (hr : Room k X.A) (ha : DA X (e :: es) τs) (hj : j ≤ k := by decide) (hg : Gl X x := by rfl)
    (hdb : (x == ("__debug__" : Str)) = false := by decide) (he : starEach (e :: es) X.env = (false, eval e X.env) :: starEach es X.env := by rfl) (hpl : (backTo pos (starEach es X.env)).any (·.1) = false := by rfl) :
    DE X (.Call (.Name x p) (e :: es) [] pos) (dCallBN n φb τs) := by
  obtain ⟨f, fd, h1, h2, h3, h4⟩ := C
  exact peI (pe_call h4 (hr.mono hj) hg h1 h2 h3 .nil pass0 ha hdb he hpl) fun σ H Q ⟨G0, Γ, T, F, Kt, R1, k, q⟩ => ⟨G0, Γ, T, F, _, R1, k, fun os Γ1 vs H1 k1 hl R2 => by
    show spB X.K n φb (vs ++ []) H1 Q E0
    rw [List.append_nil]
    exact useBN hl R2 k1 q⟩
theorem de_canSK {j k : Nat} {K : PySem.W.Frag} {φ : List Int → List PyData → (O → Prop) → Prop} (C : Can X.prog X.w K X.mg X.base j x ps (spS K n φ)) (hr : Room k X.A) (ha : DA X (e :: es) τs) (hK : X.K = K := by rfl) (hj : j ≤ k := by decide) (hg : Gl X x := by rfl)
    (hdb : (x == ("__debug__" : Str)) = false := by decide) (he : starEach (e :: es) X.env = (false, eval e X.env) :: starEach es X.env := by rfl) (hpl : (backTo pos (starEach es X.env)).any (·.1) = false := by rfl) :
    DE X (.Call (.Name x p) (e :: es) [] pos) (dCallS n φ K τs) := by
  subst hK
  exact de_canS C hr ha hj hg hdb he hpl
end
end Dl
end
section
namespace Dl
open PySem PySem.Spec PyProof.Rows L2
end Dl
end
section
namespace Dl
open PySem PySem.Spec PyProof.Rows L2
end Dl
end
section
namespace Dl
open PySem PySem.Spec PyProof.Rows L2
end Dl
end
section
namespace Dl
open PySem PySem.Spec PyProof.Rows L2
end Dl
end
section
namespace Dl
open PySem PySem.Spec PyProof.Rows L2
end Dl
end
section
set_option maxHeartbeats 4000000
namespace Dl
open PySem PySem.Spec PyProof.Rows L2
/-- the table stays, or has a new code object -/
def TabStep (P : Addr) (q : Str) (ps : Array Value) (H H1 : Hp) : Prop := H1 = H ∨ ∃ (more : Array Value) (c : Addr), H c = none ∧ TriplesOk (ps ++ more).toList ∧
  (∀ (pos : Pos) (cv : Value), codeAmong pos (ps ++ more).toList = some cv → codeAmong pos ps.toList = some cv ∨ cv = .ref c) ∧ H1 = upd (upd H P (.tbl (ps ++ more))) c (LamX.CodeO c q)
theorem TabStep.at {P : Addr} {q : Str} {ps : Array Value} {H H1 : Hp} (t : TabStep P q ps H H1) (hP : H P = some (.tbl ps)) {b : Addr} {o : HO} (h : H b = some o) (n : b ≠ P) : H1 b = some o := by
  rcases t with rfl | ⟨more, c, hc, _, _, rfl⟩
  · exact h
  · rw [upd_ne (ne_of_none h hc), upd_ne n]
    exact h
theorem TabStep.none {P : Addr} {q : Str} {ps : Array Value} {H H1 : Hp} (t : TabStep P q ps H H1) {b : Addr} (h : H1 b = none) : H b = none := by
  rcases t with rfl | ⟨more, c, hc, _, _, rfl⟩
  · exact h
  · by_cases e : b = c
    · rw [e]; exact hc
    · rw [upd_ne e] at h
      by_cases e2 : b = P
      · rw [e2, upd_same] at h
        cases h
      · rw [upd_ne e2] at h
        exact h
/-- its scope: the parameter y alone is its own; what is captured is the maker's -/
structure LamS1 (sc scope : Scope) (y : Str) : Prop where
  kind : scope.kind = .function
  co : scope.isCoroutine = false
  gen : scope.isGenerator = false
  cell : ∀ z ∈ scope.names, z.2 ≠ .cell
  loc : scope.names.lookup y = some .local
  free : ∀ z ∈ scope.names, z.2 = .free → sc.names.lookup z.1 = some .cell ∨ sc.names.lookup z.1 = some .free
  own : ∀ z ∈ scope.names, z.2 = .local → z.1 = y
theorem LamS1.has {X : Cx} {scope : Scope} {y : Str} (L : LamS1 X.env.scope scope y) (ok : X.Ok) : ∀ z ∈ scope.names, z.2 = .free → ∃ c, X.env.cells.lookup z.1 = some c := fun z hz e => by
  rcases L.free z hz e with k | k
  · exact ok.has _ (.inl k)
  · exact ok.has _ (.inr k)
section
variable {X : Cx}
def byKey (key : Int → Int) (ns : List Int) : List Int := ns.mergeSort fun a b => decide (key a ≤ key b)
theorem R.ints {K : PySem.W.Frag} {G0 H : Hp} {L : Ent} (r : R K G0 H L) : ∀ js : List Int, R K G0 H (fzs (js.map V.int) (js.map PyData.int) ++ L)
  | [] => r
  | j :: js => (R.ints r js).add fun _ => .int j
theorem dq_lint {K : PySem.W.Frag} {H : Hp} {v : V} {ns : List Int} (h : Dq K H v (.list (ns.map .int))) : ∃ a, v = .ref a ∧ H a = some (.lst (ns.map V.int)) := by
  cases h with
  | lst hs ha => exact ⟨_, rfl, by rw [dpAll_ints_inv ha] at hs; exact hs⟩
end
end Dl
end
section
set_option maxHeartbeats 4000000
namespace Dl
open PySem PySem.Spec PyProof.Rows L2
end Dl
end
section
set_option maxHeartbeats 4000000
namespace Dl
open PySem PySem.Spec PyProof.Rows L2
end Dl
end
section
set_option maxHeartbeats 4000000
namespace Dl
open PySem PySem.Spec PyProof.Rows L2
end Dl
end
section
set_option maxHeartbeats 4000000
namespace Dl
open PySem PySem.Spec PyProof.Rows L2
end Dl
end
section
namespace Dl
open PySem PySem.Spec PyProof.Rows L2
abbrev NK := PySem.NestedKey
abbrev tupN (ks : List NK) : PyData := .tuple (NestedKey.datas ks)
section
variable {X : Cx} {pins : List (Addr × Obj)} {σ : Sl} {H G : Hp} {s : Shared}
mutual
theorem nest_is (I : Inv X pins σ H s) : ∀ (k : NK) (v : V) (u : Value), Dq X.K H v k.data → RelV v u → NestedIs s.heap k u
  | .none, v, u, h, r => by
    rw [NestedKey.data] at h
    cases h
    obtain rfl : u = Value.none := r
    exact .none
  | .num i, v, u, h, r => by
    rw [NestedKey.data] at h
    cases h
    obtain ⟨t, rfl⟩ := (show ∃ t, u = Value.int i t from r)
    exact .int i t
  | .text x, v, u, h, r => by
    rw [NestedKey.data] at h
    cases h
    obtain ⟨t, rfl⟩ := (show ∃ t, u = Value.str x t from r)
    exact .text x t
  | .tup ks, v, u, h, r => by
    rw [NestedKey.data] at h
    cases h with
    | tup hs ha =>
      obtain rfl : u = Value.ref _ := r
      obtain ⟨its, rv, ⟨o, h1, h2, n, h3⟩, _⟩ := I.tuple hs
      exact .tup h1 h2 h3 (nest_all I ks _ its ha rv)
theorem nest_all (I : Inv X pins σ H s) : ∀ (ks : List NK) (vs : List V) (us : List Value), DqAll X.K H vs (NestedKey.datas ks) → Vals vs us → NestedAll s.heap ks us
  | [], vs, us, h, r => by
    rw [NestedKey.datas] at h
    cases h
    cases r
    exact .nil
  | k :: ks, vs, us, h, r => by
    rw [NestedKey.datas] at h
    cases h with
    | cons h1 h2 =>
      cases r with
      | cons r1 r2 => exact .cons (nest_is I k _ _ h1 r1) (nest_all I ks _ _ h2 r2)
end
end
section
variable {β : Type}
def lkN : List (NK × β) → NK → Option β
  | [], _ => none
  | p :: r, k => if p.1 = k then some p.2 else lkN r k
def ptN (xs : List (NK × β)) (k : NK) (v : β) : List (NK × β) := if (lkN xs k).isSome = true then xs.map (fun p => if p.1 = k then (p.1, v) else p) else xs ++ [(k, v)]
theorem length_ptN (xs : List (NK × β)) (k : NK) (v : β) : (ptN xs k v).length ≤ xs.length + 1 := by
  unfold ptN
  split
  · rw [List.length_map]; omega
  · rw [List.length_append]; exact Nat.le_refl _
end
def NO (d : Addr) (o : Obj) : HO := .ext fun h => h.get? d = some o
def EntN (K : PySem.W.Frag) (G : Hp) (p : NK × V) (q : NK × Addr × Value) : Prop := p.1 = q.1 ∧ Dq K G (.ref q.2.1) p.1.data ∧ p.1.depth ≤ 8 ∧ RelV p.2 q.2.2
/-- the object o is the dict kvs; the keys' tuples stand in G -/
def NdD (P : Program) (w : World) (K : PySem.W.Frag) (G : Hp) (d : Addr) (o : Obj) (kvs : List (NK × V)) : Prop :=
  (d == sysModules) = false ∧ kvs.length ≤ sizeLine ∧ ∃ (xs : List (NK × Addr × Value)) (es : Array DictEntry) (ep : Nat), Paired (EntN K G) kvs xs ∧ o.ExactDict ∧ o.data = .dict es ep ∧ es.toList = xs.map (entryOfKey (nestedKind P w)) ∧ (xs.map (·.1)).Nodup
section
variable {P : Program} {w : World} {K : PySem.W.Frag} {G G' H : Hp} {d b : Addr} {o : Obj} {kvs : List (NK × V)} {xs : List (NK × Addr × Value)} {k : NK} {v : V} {u : Value}
theorem entN_mono (e : Same G G') : ∀ {kvs : List (NK × V)} {xs : List (NK × Addr × Value)}, Paired (EntN K G) kvs xs → Paired (EntN K G') kvs xs
  | _, _, .nil => .nil
  | _, _, .cons ⟨h1, h2, h3, h4⟩ t => .cons ⟨h1, dp_mono e _ _ h2, h3, h4⟩ (entN_mono e t)
theorem NdD.mono (e : Same G G') (h : NdD P w K G d o kvs) : NdD P w K G' d o kvs := by
  obtain ⟨a, b, xs, es, ep, p, r⟩ := h
  exact ⟨a, b, xs, es, ep, entN_mono e p, r⟩
theorem entN_get : ∀ {kvs : List (NK × V)} {xs : List (NK × Addr × Value)}, Paired (EntN K G) kvs xs → ∀ k, RelO (lkN kvs k) ((atKey xs k).map (·.2))
  | _, _, .nil, k => True.intro
  | _, _, .cons (a := p) (b := q) (l₁ := l1) (l₂ := l2) ⟨h1, h2, h3, h4⟩ t, k => by
    have e1 : lkN (p :: l1) k = if p.1 = k then some p.2 else lkN l1 k := rfl
    have e2 : atKey (q :: l2) k = if q.1 = k then some q.2 else atKey l2 k := by
      unfold atKey
      rw [List.find?_cons]
      by_cases z : q.1 = k
      · rw [decide_eq_true z, if_pos z]; rfl
      · rw [decide_eq_false z, if_neg z]
    rw [e1, e2, h1]
    by_cases z : q.1 = k
    · rw [if_pos z, if_pos z]
      exact h4
    · rw [if_neg z, if_neg z]
      exact entN_get t k
theorem entN_some (p : Paired (EntN K G) kvs xs) (k : NK) : (lkN kvs k).isSome = (atKey xs k).isSome := by
  have h := entN_get p k
  have e : ((atKey xs k).map (·.2)).isSome = (atKey xs k).isSome := by cases atKey xs k <;> rfl
  rw [← e]
  exact h.isSome_eq
theorem entN_map (rv : RelV v u) : ∀ {kvs : List (NK × V)} {xs : List (NK × Addr × Value)}, Paired (EntN K G) kvs xs → Paired (EntN K G) (kvs.map fun p => if p.1 = k then (p.1, v) else p) (xs.map (putAt k u))
  | _, _, .nil => .nil
  | _, _, .cons (a := p) (b := q) ⟨h1, h2, h3, h4⟩ t => by
    rw [List.map_cons, List.map_cons]
    refine .cons ?_ (entN_map rv t)
    unfold putAt
    by_cases z : q.1 = k
    · rw [if_pos z, if_pos (h1.trans z)]
      exact ⟨h1, h2, h3, rv⟩
    · rw [if_neg z, if_neg fun y => z (h1.symm.trans y)]
      exact ⟨h1, h2, h3, h4⟩
theorem entN_put (p : Paired (EntN K G) kvs xs) (hk : Dq K G (.ref b) k.data) (hd : k.depth ≤ 8) (rv : RelV v u) : Paired (EntN K G) (ptN kvs k v) (storedH xs k b u) := by
  unfold ptN storedH
  rw [entN_some p k]
  by_cases z : (atKey xs k).isSome = true
  · rw [if_pos z, if_pos z]
    exact entN_map rv p
  · rw [if_neg z, if_neg z]
    exact Paired.snoc p ⟨rfl, hk, hd, rv⟩
end
section
variable {X : Cx} {pins : List (Addr × Obj)} {σ : Sl} {H G H' : Hp} {s : Shared} {a b d : Addr} {ob : Obj} {kvs : List (NK × V)} {ks : List NK} {A : Around} {E : Value → Shared → Prop} {u r : Value} {y v : V}
theorem nd_of (I : Inv X pins σ H s) (e : H d = some (NO d ob)) (sg : Same G H) (h : NdD X.prog X.w X.K G d ob kvs) : (d == sysModules) = false ∧ kvs.length ≤ sizeLine ∧ ∃ xs, Paired (EntN X.K G) kvs xs ∧ s.heap.DictOfH (nestedKind X.prog X.w) d xs := by
  obtain ⟨h1, h2, xs, es, ep, p, h3, h4, h5, h6⟩ := h
  refine ⟨h1, h2, xs, p, ob, es, ep, (I.hok d _ e).1, h3, h4, h5, ?_, h6⟩
  have all : ∀ {l : List (NK × V)} {m : List (NK × Addr × Value)}, Paired (EntN X.K G) l m → ∀ x ∈ m, (nestedKind X.prog X.w).is s.heap x.1 x.2.1 := by
    intro l m q
    induction q with
    | nil => intro x hx; exact nomatch hx
    | @cons p q ps qs hq t ih =>
      intro x hx
      rcases List.mem_cons.mp hx with e | hx
      · subst e
        obtain ⟨q1, q2, q3, _⟩ := hq
        rw [q1] at q2 q3
        exact ⟨nest_is I _ _ _ (dp_mono sg _ _ q2) rfl, q3⟩
      · exact ih x hx
  exact all p
theorem key_nd (I : Inv X pins σ H s) (sg : Same G H) (h : Dq X.K G y (tupN ks)) (hd : (NestedKey.tup ks).depth ≤ 8) (ry : RelV y u) : ∃ b, y = .ref b ∧ u = .ref b ∧ (nestedKind X.prog X.w).is s.heap (.tup ks) b := by
  have h0 := h
  cases h with
  | tup hs ha =>
    obtain rfl : u = Value.ref _ := ry
    exact ⟨_, rfl, rfl, nest_is I (.tup ks) (V.ref _) (Value.ref _) (by rw [NestedKey.data]; exact dp_mono sg _ _ h0) (show Value.ref _ = Value.ref _ from rfl), hd⟩
theorem room_nd (hu : A.units + 65 < cLine) : (nestedKind X.prog X.w).room A.in1 := by
  show A.in1.units + 8 < cLine
  have : A.in1.units ≤ A.units + 1 := Nat.le_refl _
  omega
/-- d[y], there -/
theorem n_getItem {Q : Value → Shared → Prop} (hu : A.units + 65 < cLine) (I : Inv X pins σ H s) (e : H a = some (NO a ob)) (sg : Same G H) (h : NdD X.prog X.w X.K G a ob kvs) (hk : Dq X.K G y (tupN ks)) (hd : (NestedKey.tup ks).depth ≤ 8) (hv : lkN kvs (.tup ks) = some v) (ry : RelV y u)
    (q : ∀ w' s', Inv X pins σ H s' → RelV v w' → Q w' s') : wpAny (model X.prog X.w) A (getItem (.ref a) u) Q E s := by
  obtain ⟨b, rfl, rfl, ki⟩ := key_nd I sg hk hd ry
  obtain ⟨z1, z2, xs, p, dd⟩ := nd_of I e sg h
  have g := entN_get p (.tup ks)
  rw [hv] at g
  obtain ⟨w', hw, rw'⟩ := RelO.some_of g
  obtain ⟨p2, hp, hp2⟩ := Option.map_eq_some_iff.mp hw
  refine wpAny_getItem_heap (room_nd hu) ki dd hp ?_
  rw [hp2]
  exact q w' _ (I.tok _) rw'
theorem n_notIn {Q : Value → Shared → Prop} (hu : A.units + 65 < cLine) (I : Inv X pins σ H s) (e : H a = some (NO a ob)) (sg : Same G H) (h : NdD X.prog X.w X.K G a ob kvs) (hk : Dq X.K G y (tupN ks)) (hd : (NestedKey.tup ks).depth ≤ 8) (ry : RelV y u)
    (q : ∀ s', Inv X pins σ H s' → Q (.bool (!(lkN kvs (.tup ks)).isSome)) s') : wpAny (model X.prog X.w) A (compareOp .NotIn u (.ref a)) Q E s := by
  obtain ⟨b, rfl, rfl, ki⟩ := key_nd I sg hk hd ry
  obtain ⟨z1, z2, xs, p, dd⟩ := nd_of I e sg h
  refine wpAny_notIn_heap (room_nd hu) ki z1 dd ?_
  rw [← entN_some p]
  exact q _ (I.tok _)
theorem n_setItem {Q : Unit → Shared → Prop} (hu : A.units + 65 < cLine) (I : Inv X pins σ H s) (e : H a = some (NO a ob)) (sg : Same G H) (h : NdD X.prog X.w X.K G a ob kvs) (hk : Dq X.K G y (tupN ks)) (hd : (NestedKey.tup ks).depth ≤ 8) (hl : kvs.length < sizeLine) (ry : RelV y u) (rv : RelV v r)
    (q : ∀ ob' s', NdD X.prog X.w X.K G a ob' (ptN kvs (.tup ks) v) → Inv X pins σ (upd H a (NO a ob')) s' → Q () s') : wpAny (model X.prog X.w) A (setItem (.ref a) u r) Q E s := by
  obtain ⟨b, rfl, rfl, ki⟩ := key_nd I sg hk hd ry
  obtain ⟨z1, z2, xs, p, dd⟩ := nd_of I e sg h
  have hz : xs.length ≤ sizeLine := by rw [← Paired.length p]; exact z2
  refine wpAny_setItem_heap (hsz := hz) (room_nd hu) ki dd fun h' dd' hs => ?_
  obtain ⟨o', es, ep, hq, h2, h3, h4, _, h5⟩ := dd'
  have hl2 : (ptN kvs (.tup ks) v).length ≤ sizeLine := by have := length_ptN kvs (.tup ks) v; omega
  refine q o' _ ⟨z1, hl2, _, es, ep, entN_put p (by rw [NestedKey.data]; exact hk) hd rv, h2, h3, h4, h5⟩ ?_
  exact d_write I (by rw [e]; exact True.intro) hs ⟨o', hq⟩ ⟨hq, ⟨o', hq⟩, fun h1 h2 e k => k _ e⟩
end
end Dl
end
section
namespace Dl
open PySem PySem.Spec PyProof.Rows L2
abbrev KNs := List (NK × PyData)
def DqN (K : PySem.W.Frag) (G : Hp) : List (NK × V) → KNs → Prop := Paired fun p q => p.1 = q.1 ∧ Dq K G p.2 q.2
def phN (P : Program) (w : World) (K : PySem.W.Frag) (ob : Obj) (xs : KNs) : Hp → Hp → V → List Addr → Prop := fun G H v fp => ∃ d kvs, v = .ref d ∧ fp = [d] ∧ H d = some (NO d ob) ∧ NdD P w K G d ob kvs ∧ DqN K G kvs xs
def phZ (P : Program) (w : World) (K : PySem.W.Frag) (ob : Obj) (xs : KNs) : Hp → Hp → V → List Addr → Prop := fun G _ v fp => ∃ d kvs, v = .ref d ∧ fp = [] ∧ G d = some (NO d ob) ∧ NdD P w K G d ob kvs ∧ DqN K G kvs xs
abbrev ndO (P : Program) (w : World) (K : PySem.W.Frag) (ob : Obj) (xs : KNs) : O := .ob (phN P w K ob xs)
abbrev zdO (P : Program) (w : World) (K : PySem.W.Frag) (ob : Obj) (xs : KNs) : O := .ob (phZ P w K ob xs)
section
variable {P : Program} {w : World} {K : PySem.W.Frag} {G G' H G0 : Hp} {L : Ent} {ob : Obj} {xs : KNs} {kvs : List (NK × V)} {k : NK} {v u y : V} {e dk : PyData} {o : O} {ks : List NK}
theorem dqN_mono (s : Same G G') : ∀ {kvs : List (NK × V)} {xs : KNs}, DqN K G kvs xs → DqN K G' kvs xs
  | _, _, .nil => .nil
  | _, _, .cons ⟨h1, h2⟩ t => .cons ⟨h1, dp_mono s _ _ h2⟩ (dqN_mono s t)
theorem stab_N : Stab (phN P w K ob xs) := ⟨fun ⟨d, kvs, h1, h2, h3, h4, h5⟩ s k => ⟨d, kvs, h1, h2, (k d (by rw [h2]; simp)).trans h3, h4.mono s, dqN_mono s h5⟩, fun ⟨d, kvs, h1, h2, h3, h4, h5⟩ a ha => by
  rw [h2] at ha
  simp at ha
  subst ha
  exact ⟨_, h3⟩⟩
theorem stab_Z : Stab (phZ P w K ob xs) := ⟨fun ⟨d, kvs, h1, h2, h3, h4, h5⟩ s k => ⟨d, kvs, h1, h2, s _ _ h3, h4.mono s, dqN_mono s h5⟩, fun ⟨d, kvs, h1, h2, h3, h4, h5⟩ a ha => by
  rw [h2] at ha
  simp at ha⟩
theorem dqN_get : ∀ {kvs : List (NK × V)} {xs : KNs}, DqN K G kvs xs → ∀ k, (lkN kvs k = none ∧ lkN xs k = none) ∨ ∃ u e, lkN kvs k = some u ∧ lkN xs k = some e ∧ Dq K G u e
  | _, _, .nil, k => .inl ⟨rfl, rfl⟩
  | _, _, .cons (a := p) (b := q) (l₁ := l1) (l₂ := l2) ⟨h1, h2⟩ t, k => by
    have e1 : lkN (p :: l1) k = if p.1 = k then some p.2 else lkN l1 k := rfl
    have e2 : lkN (q :: l2) k = if q.1 = k then some q.2 else lkN l2 k := rfl
    rw [e1, e2, h1]
    by_cases z : q.1 = k
    · rw [if_pos z, if_pos z]
      exact .inr ⟨_, _, rfl, rfl, h2⟩
    · rw [if_neg z, if_neg z]
      exact dqN_get t k
theorem dqN_some (h : DqN K G kvs xs) (k : NK) : (lkN kvs k).isSome = (lkN xs k).isSome := by
  rcases dqN_get h k with ⟨a, b⟩ | ⟨u, e, a, b, _⟩
  · rw [a, b]; rfl
  · rw [a, b]; rfl
theorem dqN_map (hd : Dq K G u e) : ∀ {kvs : List (NK × V)} {xs : KNs}, DqN K G kvs xs → DqN K G (kvs.map fun p => if p.1 = k then (p.1, u) else p) (xs.map fun p => if p.1 = k then (p.1, e) else p)
  | _, _, .nil => .nil
  | _, _, .cons (a := p) (b := q) ⟨h1, h2⟩ t => by
    rw [List.map_cons, List.map_cons]
    refine .cons ?_ (dqN_map hd t)
    by_cases z : q.1 = k
    · rw [if_pos z, if_pos (h1.trans z)]
      exact ⟨h1, hd⟩
    · rw [if_neg z, if_neg fun y => z (h1.symm.trans y)]
      exact ⟨h1, h2⟩
theorem dqN_put (h : DqN K G kvs xs) (hd : Dq K G u e) : DqN K G (ptN kvs k u) (ptN xs k e) := by
  unfold ptN
  rw [dqN_some h k]
  by_cases z : (lkN xs k).isSome = true
  · rw [if_pos z, if_pos z]
    exact dqN_map hd h
  · rw [if_neg z, if_neg z]
    exact Paired.snoc h ⟨rfl, hd⟩
theorem dqN_len (h : DqN K G kvs xs) : kvs.length = xs.length := Paired.length h
/-- a frozen one among the rest -/
theorem fz_of : ∀ {M : Ent} {g : List Addr}, dnAll K G H (M.map (·.2)) (M.map (·.1)) g → (y, O.fz dk) ∈ M → Dq K G y dk
  | [], g, h, m => by simp at m
  | (v, o) :: M, g, h, m => by
    rw [List.map_cons, List.map_cons] at h
    unfold dnAll at h
    obtain ⟨v', vr, f, g', q, rfl, h1, h2⟩ := h
    cases q
    rcases List.mem_cons.mp m with q | m
    · cases q
      unfold dn at h1
      exact h1.1
    · exact fz_of h2 m
def IsNd (P : Program) (w : World) (K : PySem.W.Frag) (o : O) (ob : Obj) (xs : KNs) : Prop := o = ndO P w K ob xs ∨ o = zdO P w K ob xs
/-- what such a dict is, with what stands still beside it -/
theorem R.nd (r : R K G0 H ((v, o) :: L)) (h : IsNd P w K o ob xs) : ∃ d kvs G, v = .ref d ∧ H d = some (NO d ob) ∧ Same G H ∧ NdD P w K G d ob kvs ∧ DqN K G kvs xs ∧ (∀ y dk, (y, O.fz dk) ∈ L → Dq K G y dk) ∧
    ∀ u e, Dq K G u e → R K G0 H ((u, .fz e) :: (v, o) :: L) := by
  obtain ⟨G, f, g, s0, s1, h1, h2, nd, hn⟩ := R.cons_iff.mp r
  have add : ∀ u e, Dq K G u e → R K G0 H ((u, .fz e) :: (v, o) :: L) := fun u e q => by
    refine R.cons_iff.mpr ⟨G, [], f ++ g, s0, s1, ?_, ?_, nd, hn⟩
    · unfold dn
      exact ⟨q, rfl⟩
    · simp only [tO, tV, List.cons_append, List.map_cons]
      unfold dnAll
      exact ⟨v, _, f, g, rfl, rfl, h1, h2⟩
  have inL : ∀ y dk, (y, O.fz dk) ∈ L → Dq K G y dk := fun y dk m => fz_of h2 (List.mem_append_left _ m)
  rcases h with rfl | rfl
  · unfold dn at h1
    obtain ⟨⟨d, kvs, rfl, rfl, e1, e2, e3⟩, _⟩ := h1
    exact ⟨d, kvs, G, rfl, e1, s1, e2, e3, inL, add⟩
  · unfold dn at h1
    obtain ⟨⟨d, kvs, rfl, rfl, e1, e2, e3⟩, _⟩ := h1
    exact ⟨d, kvs, G, rfl, s1 _ _ e1, s1, e2, e3, inL, add⟩
/-- .. and what a store leaves -/
theorem R.ndput (r : R K G0 H ((v, ndO P w K ob xs) :: L)) : ∃ d kvs G, v = .ref d ∧ H d = some (NO d ob) ∧ Same G H ∧ NdD P w K G d ob kvs ∧ DqN K G kvs xs ∧ (∀ y dk, (y, O.fz dk) ∈ L → Dq K G y dk) ∧
    ∀ ob' kvs' xs', NdD P w K G d ob' kvs' → DqN K G kvs' xs' → R K G0 (upd H d (NO d ob')) ((v, ndO P w K ob' xs') :: L) := by
  obtain ⟨G, f, g, s0, s1, h1, h2, nd, hn⟩ := R.cons_iff.mp r
  unfold dn at h1
  obtain ⟨⟨d, kvs, rfl, rfl, e1, e2, e3⟩, _⟩ := h1
  refine ⟨d, kvs, G, rfl, e1, s1, e2, e3, fun y dk m => fz_of h2 (List.mem_append_left _ m), fun ob' kvs' xs' n1 n2 => ?_⟩
  refine R.put s0 s1 h2 nd hn ?_
  unfold dn
  exact ⟨⟨d, kvs', rfl, rfl, upd_same, n1, n2⟩, stab_N⟩
theorem R.freezeN (r : R K G0 H ((v, ndO P w K ob xs) :: L)) : R K G0 H ((v, zdO P w K ob xs) :: L) := by
  obtain ⟨G, f, g, s0, s1, h1, h2, nd, hn⟩ := R.cons_iff.mp r
  unfold dn at h1
  obtain ⟨⟨d, kvs, rfl, rfl, e1, e2, e3⟩, _⟩ := h1
  have gd : G d = none := hn d (by simp)
  have a1 : Same G (upd G d (NO d ob)) := same_upd gd
  obtain ⟨n1, n2⟩ := List.nodup_cons.mp (show (d :: g).Nodup from nd)
  refine R.cons_iff.mpr ⟨upd G d (NO d ob), [], g, s0.trans a1, upd_same_of s1 e1, ?_, dnAll_keep a1 _ _ g h2 fun a _ => rfl, n2, fun a ha => ?_⟩
  · unfold dn
    exact ⟨⟨d, kvs, rfl, rfl, upd_same, e2.mono a1, dqN_mono a1 e3⟩, stab_Z⟩
  · have ha : a ∈ g := ha
    have nz : a ≠ d := fun z => n1 (by rw [← z]; exact ha)
    rw [upd_ne nz]
    exact hn a (List.mem_append_right _ ha)
theorem R.copyZ (r : R K G0 H ((v, zdO P w K ob xs) :: L)) : R K G0 H ((v, zdO P w K ob xs) :: (v, zdO P w K ob xs) :: L) := by
  obtain ⟨G, f, g, s0, s1, h1, h2, nd, hn⟩ := R.cons_iff.mp r
  have h0 := h1
  unfold dn at h1
  obtain ⟨⟨d, kvs, rfl, rfl, e1, e2, e3⟩, _⟩ := h1
  refine R.cons_iff.mpr ⟨G, [], [] ++ g, s0, s1, h0, ?_, nd, hn⟩
  simp only [tO, tV, List.cons_append, List.map_cons]
  unfold dnAll
  exact ⟨_, _, [], g, rfl, rfl, h0, h2⟩
theorem NdD.nil {d : Addr} (hd : (d == sysModules) = false) : NdD P w K G d { cls := .type "dict", data := .dict #[] } [] := ⟨hd, Nat.zero_le _, [], #[], 0, .nil, ⟨rfl, rfl, rfl⟩, rfl, rfl, List.nodup_nil⟩
theorem R.newN {p : Addr} (r : R K G0 H L) (hp : H p = none) (hd : (p == sysModules) = false) : R K G0 (upd H p (NO p { cls := .type "dict", data := .dict #[] })) ((.ref p, ndO P w K { cls := .type "dict", data := .dict #[] } []) :: L) := by
  obtain ⟨G, g, s0, s1, b, nd, hn⟩ := r
  have gp : G p = none := s1.free hp
  have hpg : ∀ a ∈ g, a ≠ p := fun a ha z => by
    obtain ⟨u, q⟩ := dnAll_has _ _ g b a ha
    rw [z, hp] at q
    cases q
  refine R.cons_iff.mpr ⟨G, [p], g, s0, s1.trans (same_upd hp), ?_, dnAll_keep (Same.refl G) _ _ g b fun a ha => upd_ne (hpg a ha), ?_, fun a ha => ?_⟩
  · unfold dn
    exact ⟨⟨p, [], rfl, rfl, upd_same, .nil hd, .nil⟩, stab_N⟩
  · exact List.nodup_cons.mpr ⟨fun z => hpg p z rfl, nd⟩
  · rcases List.mem_cons.mp ha with rfl | ha
    · exact gp
    · exact hn a ha
end
section
variable {X : Cx} {pos tpos : Pos} {td ty : TE} {o i : Expr}
def tNGet (P : Program) (w : World) (K : PySem.W.Frag) (td ty : TE) : TE := fun σ H Q => td σ H fun x H1 => ty σ H1 fun y H2 => ∃ a ob kvs G ks v, x = .ref a ∧ H2 a = some (NO a ob) ∧ Same G H2 ∧ NdD P w K G a ob kvs ∧ Dq K G y (tupN ks) ∧ (NestedKey.tup ks).depth ≤ 8 ∧ lkN kvs (.tup ks) = some v ∧ Q v H2
theorem pe_nget (hu : X.A.units + 65 < cLine) (ho : PE X o td) (hi : PE X i ty) (hs : NoSl i) : PE X (.Subscript o i pos) (tNGet X.prog X.w X.K td ty) := by
  refine ⟨fun pins s σ H Q I h => ?_⟩
  refine subD_of PySem.F.slot_dict_getitem.lookup hs (thn (ho.run pins s σ H _ I h) fun u s1 ⟨x, H1, I1, rx, q1⟩ => thn (hi.run pins s1 σ H1 _ I1 q1) fun iv s2 ⟨y, H2, I2, ry, a, ob, kvs, G, ks, v, ex, e1, e2, e3, e4, e5, e6, q2⟩ => ?_)
  subst ex
  obtain rfl : u = Value.ref a := rx
  obtain ⟨_, _, ys, _, dd⟩ := nd_of I2 e1 e2 e3
  exact ⟨dd.typeIs, n_getItem hu I2 e1 e2 e3 e4 e5 e6 ry fun w' s3 I3 rw' => ⟨v, H2, I3, rw', q2⟩⟩
def tNIn (P : Program) (w : World) (K : PySem.W.Frag) (g : Bool → Bool) (ty td : TE) : TE := fun σ H Q => ty σ H fun y H1 => td σ H1 fun x H2 => ∃ a ob kvs G ks, x = .ref a ∧ H2 a = some (NO a ob) ∧ Same G H2 ∧ NdD P w K G a ob kvs ∧ Dq K G y (tupN ks) ∧ (NestedKey.tup ks).depth ≤ 8 ∧ Q (.bl (g (lkN kvs (.tup ks)).isSome)) H2
theorem pc_nnotin (hu : X.A.units + 65 < cLine) (hi : PE X i ty) (ho : PE X o td) : PC X .NotIn i o (tNIn X.prog X.w X.K (!·) ty td) := by
  refine ⟨fun pins s σ H Q I h => ?_⟩
  refine thn (hi.run pins s σ H _ I h) fun iv s1 ⟨y, H1, I1, ry, q1⟩ => thn (ho.run pins s1 σ H1 _ I1 q1) fun u s2 ⟨x, H2, I2, rx, a, ob, kvs, G, ks, ex, e1, e2, e3, e4, e5, q2⟩ => ?_
  subst ex
  obtain rfl : u = Value.ref a := rx
  exact n_notIn hu I2 e1 e2 e3 e4 e5 ry fun s3 I3 => ⟨.bl _, H2, I3, rfl, q2⟩
def rSetN (P : Program) (w : World) (K : PySem.W.Frag) : TSet := fun o i v H Q => ∃ a ob kvs G ks, o = .ref a ∧ H a = some (NO a ob) ∧ Same G H ∧ NdD P w K G a ob kvs ∧ Dq K G i (tupN ks) ∧ (NestedKey.tup ks).depth ≤ 8 ∧ kvs.length < sizeLine ∧ ∀ ob', NdD P w K G a ob' (ptN kvs (.tup ks) v) → Q (upd H a (NO a ob'))
theorem set_nd (hu : X.A.units + 65 < cLine) : PSet X (rSetN X.prog X.w X.K) := by
  intro pins s σ H o i v ov iv u Q I ro ri rv h
  obtain ⟨a, ob, kvs, G, ks, eo, e1, e2, e3, e4, e5, e6, q⟩ := h
  subst eo
  cases (show ov = Value.ref a from ro)
  exact n_setItem hu I e1 e2 e3 e4 e5 e6 ri rv fun ob' s' n I' => ⟨_, I', q ob' n⟩
end
end Dl
end
section
namespace Dl
open PySem PySem.Spec PyProof.Rows L2
def ItN (a : Addr) (ob : Obj) (n : Nat) : It :=
  ⟨fun i H => H a = some (NO a ob) ∧ i < n, fun i H x H' => H' = H ∧ ∃ (es : Array DictEntry) (ep : Nat) (en : DictEntry) (b : Addr), ob.data = .dict es ep ∧ es[i]? = some en ∧ en.key = Value.ref b ∧ x = V.ref b, fun i H => H a = some (NO a ob) ∧ n ≤ i⟩
section
variable {P : Program} {w : World} {K : PySem.W.Frag} {tg : Expr} {d a : Addr} {ob : Obj} {es : Array DictEntry} {ep n : Nat} {H G : Hp} {kvs : List (NK × V)} {xs : KNs}
theorem ndd_size (h : NdD P w K G d ob kvs) (e : ob.data = .dict es ep) : es.size = kvs.length := by
  obtain ⟨_, _, ys, es', ep', p, _, e', h4, _⟩ := h
  rw [e] at e'
  cases e'
  rw [size_of_entries h4]
  exact (Paired.length p).symm
theorem ndd_key (h : NdD P w K G d ob kvs) (e : ob.data = .dict es ep) {i : Nat} {k : NK} {v : V} (hi : kvs[i]? = some (k, v)) : ∃ en b, es[i]? = some en ∧ en.key = .ref b ∧ Dq K G (.ref b) k.data ∧ k.depth ≤ 8 := by
  obtain ⟨_, _, ys, es', ep', p, _, e', h4, _⟩ := h
  rw [e] at e'
  cases e'
  obtain ⟨b, hb, e1, e2, e3, _⟩ := paired_get p hi
  have q := entry_at h4 i
  rw [hb] at q
  exact ⟨_, b.2.1, q, rfl, e2, e3⟩
theorem turn_nd (it : Addr) (hod : ob.data = .dict es ep) (hn : es.size = n) (hk : ∀ (j : Nat) (en : DictEntry), es[j]? = some en → ∃ b, en.key = Value.ref b) : Turn P w K tg (ItN a ob n) [it] it (fun i h => h.IsKeyIter it a i n ep) where
  mem := by simp
  obj := fun i h st b hb => by
    have e : b = it := by simpa using hb
    subst e
    obtain ⟨oi, e, c, dd⟩ := st
    exact ⟨oi, e, fun v z => by rw [dd] at z; cases z⟩
  keep := fun i h h' st k => st.at fun oi e => k it (by simp) oi e
  item := by
    intro X hP hw hK hc i pins s σ H E I hf st hg
    subst hP hw hK
    obtain ⟨hd, hi⟩ := hg
    obtain ⟨f0, f1, f2, f3, f4, f5⟩ := hf it (by simp)
    have hgd : s.heap.get? a = some ob := (I.hok a _ hd).1
    have hen : es[i]? = some (es[i]'(by omega)) := Array.getElem?_eq_getElem (by omega)
    refine next_key_item st hgd hod hn hen fun h' st' sb => ?_
    have I1 : Inv X pins σ H { s with heap := h' } := I.turned (t' := s.toks) (fun b ob hb e => (sb.2 b hb).trans e) f0 f1 f3 f4 f5
    obtain ⟨oi, e, c, dd⟩ := id st'
    obtain ⟨b, hb⟩ := hk _ _ hen
    exact ⟨_, rfl, go_of (s := { s with heap := h' }) e c dd (by decide) ⟨.ref b, H, I1, hb, ⟨rfl, es, ep, _, b, hod, hen, hb, rfl⟩, st', fun b hb => (hf b hb).1⟩⟩
  done := by
    intro X hP hw hK hc i pins s σ H E I hf st hg
    subst hP hw hK
    obtain ⟨hd, hi⟩ := hg
    obtain ⟨f0, f1, f2, f3, f4, f5⟩ := hf it (by simp)
    have hgd : s.heap.get? a = some ob := (I.hok a _ hd).1
    exact next_key_end (I.ok.hd hc) st hgd hod hn hi fun h' eb => ⟨rfl, I.turned (t' := s.toks) (fun b ob hb e => eb b ob hb e) f0 f1 f3 f4 f5⟩
  self := fun A i s Q E st h => by
    refine wpAny_pyIter_slot st.typeIs F.slot_dict_keyiterator_iter (wpAny_call_entry F.slot_dict_keyiterator_iter st.typeIs F.entry_dict_keyiterator_iter ?_ (F.args_dict_keyiterator_iter_1 _))
    show wpAny _ _ (ret (.ref it)) _ _ s
    exact wpAny_pure ⟨_, rfl, "dict_keyiterator", _, st.typeIs, F.slot_dict_keyiterator_next.lookup, h⟩
theorem ndd_keys (h : NdD P w K G d ob kvs) (e : ob.data = .dict es ep) : ∀ (j : Nat) (en : DictEntry), es[j]? = some en → ∃ b, en.key = Value.ref b := by
  obtain ⟨_, _, ys, es', ep', p, _, e', h4, _⟩ := h
  rw [e] at e'
  cases e'
  intro j en hj
  have q := entry_at h4 j
  rw [hj] at q
  obtain ⟨y, _, hy⟩ := Option.map_eq_some_iff.mp q.symm
  exact ⟨y.2.1, by rw [← hy]; rfl⟩
theorem feeds_nd : Feeds K (ItN a ob xs.length) xs.length (fun i => ((xs.getD i (.none, .none)).1).data) [(.ref a, zdO P w K ob xs)] where
  step := fun {G0 H L i} r hi => by
    obtain ⟨a', kvs, G, e, h1, h2, h3, h4, h5, h6⟩ := R.nd r (.inr rfl)
    cases e
    refine ⟨⟨h1, hi⟩, fun x H' y => ?_⟩
    obtain ⟨rfl, es, ep, en, b, hod, hen, hb, rfl⟩ := y
    have hk : i < kvs.length := by rw [dqN_len h4]; exact hi
    obtain ⟨⟨k, v⟩, hkv⟩ : ∃ p, kvs[i]? = some p := ⟨kvs[i], List.getElem?_eq_getElem hk⟩
    obtain ⟨en', b', e1, e2, e3, _⟩ := ndd_key h3 hod hkv
    rw [hen] at e1
    cases e1
    rw [hb] at e2
    cases e2
    obtain ⟨p, hp, q1, _⟩ := paired_get h4 hkv
    have e4 : xs.getD i (.none, .none) = p := by rw [List.getD_eq_getElem?_getD, hp]; rfl
    show R K G0 H' ((V.ref b, .fz ((xs.getD i (.none, .none)).1).data) :: _)
    rw [e4, ← q1]
    exact h6 _ _ e3
  stop := fun {G0 H L} r => by
    obtain ⟨a', kvs, G, e, h1, h2, h3, h4, h5, h6⟩ := R.nd r (.inr rfl)
    cases e
    exact ⟨h1, Nat.le_refl _⟩
end
section
variable {X : Cx} {tg e : Expr} {td : TE}
def iNd (P : Program) (w : World) (K : PySem.W.Frag) (td : TE) : TI := fun σ H R => td σ H fun x H1 => ∃ d ob kvs G, x = .ref d ∧ H1 d = some (NO d ob) ∧ NdD P w K G d ob kvs ∧ R (ItN d ob kvs.length) H1
theorem pi_nd (he : PE X e td) : PI X tg e (iNd X.prog X.w X.K td) := by
  refine ⟨fun pins s σ H R I h => ?_⟩
  refine thn (he.run pins s σ H _ I h) fun u s1 ⟨x, H1, I1, rx, d, ob, kvs, G, ex, hd, hn, q⟩ => ?_
  subst ex
  obtain rfl : u = Value.ref d := rx
  have hn0 := hn
  obtain ⟨hs, _, ys, es, ep, p, hx, hdt, h4, _⟩ := hn0
  have hgd : s1.heap.get? d = some ob := (I1.hok d _ hd).1
  have hsz := ndd_size hn hdt
  refine iter_keys hs hgd hx hdt (pi_one (tk := s1.toks) I1 _ (turn_nd _ hdt hsz (ndd_keys hn hdt)) ⟨_, Heap.get?_push_size _ rfl, rfl, ?_⟩ q)
  rw [← hsz] <;> rfl
end
section
variable {P : Program} {w : World} {K : PySem.W.Frag} {G0 H : Hp} {T F : Ent} {σ : Sl} {Γ : Gm} {i : Nat} {o : O} {ob : Obj} {xs : KNs} {y : V} {dk : PyData}
theorem Rel.backG (r : Rel K G0 T F σ H Γ) (g : get Γ i = some o) {M : Ent} {v : V} (hv : σ[i]? = some (some v)) (r9 : R K G0 H (M ++ ((v, o) :: (T ++ (ents σ (put Γ i none) ++ F))))) : R K G0 H (M ++ (T ++ (ents σ Γ ++ F))) := by
  obtain ⟨w, q1, q2, q3⟩ := ents_out r.fit g
  rw [hv] at q1
  cases q1
  refine r9.perm (List.Perm.append_left M ?_)
  have q : ((v, o) :: (T ++ (ents σ (put Γ i none) ++ F))).Perm (T ++ ((v, o) :: (ents σ (put Γ i none) ++ F))) := List.perm_middle.symm
  exact q.trans (List.Perm.append_left T (q2.symm.append_right F))
theorem Rel.nd (r : Rel K G0 T F σ H Γ) (g : get Γ i = some o) (hn : IsNd P w K o ob xs) : ∃ d kvs G, σ[i]? = some (some (.ref d)) ∧ H d = some (NO d ob) ∧ Same G H ∧ NdD P w K G d ob kvs ∧ DqN K G kvs xs ∧ (∀ y dk, (y, O.fz dk) ∈ T → Dq K G y dk) ∧
    ∀ u e, Dq K G u e → Rel K G0 ((u, .fz e) :: T) F σ H Γ := by
  obtain ⟨v, h1, h2, h3⟩ := r.out g
  obtain ⟨d, kvs, G, rfl, e1, e2, e3, e4, e5, e6⟩ := R.nd h2 hn
  refine ⟨d, kvs, G, h1, e1, e2, e3, e4, fun y dk m => e5 y dk (List.mem_append_left _ m), fun u e q => ?_⟩
  refine ⟨r.fit, r.al.cons (fun _ z => nomatch z), ?_⟩
  exact Rel.backG (M := [(u, .fz e)]) r g h1 (e6 u e q)
end
section
variable {X : Cx} {pos p0 p1 : Pos} {x : Str} {τa τb τ : TEd} {a b ie e tg : Expr} {i : Nat}
def emptyD : Obj := { cls := .type "dict", data := .dict #[] }
def isNs (X : Cx) (o : Option O) : Prop := ∃ o' ob xs, o = some o' ∧ IsNd X.prog X.w X.K o' ob xs
def dNinT (X : Cx) (g : Bool → Bool) (τa : TEd) (i : Nat) : TTd := fun Γ Kt => τa Γ fun p Γ1 => esc Γ1 p fun d Γ2 => ∃ o ob xs ks, get Γ2 i = some o ∧ IsNd X.prog X.w X.K o ob xs ∧ d = tupN ks ∧ (NestedKey.tup ks).depth ≤ 8 ∧ Kt (g (lkN xs (.tup ks)).isSome) Γ2
theorem dt_ndnin (i : Nat) (hu : X.A.units + 65 < cLine) (ha : DE X a τa) (hv : PE X (.Name x p0) (tVar i)) (hm : behindInMarks .NotIn (.Name x p0) = false := by rfl) : DT X (.Compare a [.NotIn] [.Name x p0] pos) (dNinT X (!·) τa i) := ptI (pt_cmp (pc_nnotin hu ha hv) hm) fun σ H Q ⟨G0, Γ, T, F, Kt, R1, k, q⟩ =>
  ⟨G0, Γ, T, F, _, R1, k, fun p Γ1 w H1 k1 R2 => by
    obtain ⟨d, Γ2, ⟨o, ob, xs, ks, g2, hn, rfl, hd, k2⟩, R3⟩ := R2.escape k1
    obtain ⟨ad, kvs, G, h0, h1, h2, h3, h4, h5, h6⟩ := R3.nd g2 hn
    refine ⟨_, h0, ad, ob, kvs, G, ks, rfl, h1, h2, h3, h5 w _ List.mem_cons_self, hd, _, rfl, ?_⟩
    rw [dqN_some h4]
    exact q _ Γ2 H1 k2 R3.drop⟩
def dNput (X : Cx) (i : Nat) (τi τ : TEd) : TSd := fun E Γ => τ Γ fun o Γ1 => esc Γ1 o fun d Γ2 => isNs X (get Γ2 i) ∧ τi Γ2 fun p Γ3 => esc Γ3 p fun dk Γ4 => ∃ ob xs ks, get Γ4 i = some (ndO X.prog X.w X.K ob xs) ∧ dk = tupN ks ∧ (NestedKey.tup ks).depth ≤ 8 ∧ xs.length < sizeLine ∧
  ∀ ob', E.nx (put Γ4 i (some (ndO X.prog X.w X.K ob' (ptN xs (.tup ks) d))))
theorem ds_nput (i : Nat) (hu : X.A.units + 65 < cLine) (hv : PE X (.Name x p0) (tVar i)) (hi : DE X ie τa) (he : DE X e τ)
    (ha : ∀ v, assign (.Subscript (.Name x p0) ie p1) X.env v = (do
      let ov ← holding [v] (eval (.Name x p0) X.env)
      let iv ← holding [v, ov] (eval ie X.env)
      standAt p1
      holding [v, ov, iv] (setItem ov iv v)
      release [v, ov, iv] []) := by intro _; rfl) (hs : swapsWithSole [.Subscript (.Name x p0) ie p1] e pos.line X.env = pure false := by rfl) (hw : swappedStores [.Subscript (.Name x p0) ie p1] e X.env = pure none := by rfl)
    (h1 : (assignEach [.Subscript (.Name x p0) ie p1] X.env).map (·.2) = [assign (.Subscript (.Name x p0) ie p1) X.env] := by rfl) : DS X (.Assign [.Subscript (.Name x p0) ie p1] e pos) (dNput X i τa τ) :=
  psI (ps_asg he (pg_sub hv hi (set_nd hu) ha) hs hw h1) fun D σ H ⟨G0, Γ, F, E, R1, k, q⟩ => ⟨G0, Γ, [], F, _, R1, k, fun o Γ1 v H1 k1 R2 => by
    obtain ⟨d, Γ2, ⟨⟨o0, ob0, xs0, g0, _⟩, k2⟩, R3⟩ := R2.escape k1
    obtain ⟨u, hu, _, _⟩ := R3.out g0
    refine ⟨u, hu, G0, Γ2, [(v, .fz d)], F, _, R3, k2, fun p Γ3 w H3 k3 R4 => ?_⟩
    obtain ⟨dk, Γ4, ⟨ob, xs, ks, g4, rfl, hd, hl, k4⟩, R5⟩ := R4.escape k3
    obtain ⟨u2, e1, e2, e3⟩ := R5.out g4
    rw [hu] at e1
    cases e1
    obtain ⟨ad, kvs, G, rfl, n1, n2, n3, n4, n5, n6⟩ := R.ndput e2
    have hy := n5 w (tupN ks) (List.mem_append_left _ List.mem_cons_self)
    have hd' := n5 v d (List.mem_append_left _ (List.mem_cons_of_mem _ List.mem_cons_self))
    refine ⟨ad, ob, kvs, G, ks, rfl, n1, n2, n3, hy, hd, by rw [dqN_len n4]; exact hl, fun ob' nn => q.nx _ _ _ (k4 ob') ?_⟩
    have r6 := n6 ob' _ _ nn (dqN_put n4 hd')
    have r7 := r6.perm (show (_ :: ([(w, .fz (tupN ks)), (v, .fz d)] ++ (ents σ (put Γ4 i none) ++ F))).Perm ([(w, .fz (tupN ks)), (v, .fz d)] ++ (_ :: (ents σ (put Γ4 i none) ++ F))) from List.perm_middle.symm)
    exact Rel.back (T := []) e3 (fun _ _ m => by simp at m) (get_lt g4) hu (R.dropL r7)⟩
/-- for .. in such a dict: it stands still from here on -/
def dNdI (X : Cx) (i : Nat) : TId := fun Γ Kt => ∃ o ob xs, get Γ i = some o ∧ IsNd X.prog X.w X.K o ob xs ∧ Kt xs.length (fun j => ((xs.getD j (.none, .none)).1).data) (put Γ i (some (zdO X.prog X.w X.K ob xs)))
theorem di_nd (i : Nat) (hv : PE X (.Name x p0) (tVar i)) : DI X tg (.Name x p0) (dNdI X i) := piI (pi_nd hv) fun σ H Q ⟨G0, Γ, T, F, Kt, R1, ⟨o, ob, xs, g, hn, k⟩, q⟩ => by
  obtain ⟨v, h1, h2, h3⟩ := R1.out g
  obtain ⟨d, kvs, G, rfl, e1, e2, e3, e4, e5, e6⟩ := R.nd h2 hn
  refine ⟨.ref d, h1, d, ob, kvs, G, rfl, e1, e3, ?_⟩
  have rz : R X.K G0 H ((.ref d, zdO X.prog X.w X.K ob xs) :: (T ++ (ents σ (put Γ i none) ++ F))) := by
    rcases hn with rfl | rfl
    · exact h2.freezeN
    · exact h2
  have rc := rz.copyZ
  rw [dqN_len e4]
  refine q _ _ _ _ [(.ref d, zdO X.prog X.w X.K ob xs)] H k feeds_nd ?_
  have hl := get_lt g
  refine Rel.back h3 R1.al hl h1 ?_
  refine rc.perm (.cons _ ?_)
  have q1 : ((V.ref d, zdO X.prog X.w X.K ob xs) :: (T ++ (ents σ (put Γ i none) ++ F))).Perm (T ++ (ents σ (put Γ i none) ++ ((V.ref d, zdO X.prog X.w X.K ob xs) :: F))) := by
    rw [← List.append_assoc, ← List.append_assoc]
    exact List.perm_middle.symm
  exact q1
end
end Dl
end
section
namespace Dl
open PySem PySem.Spec PyProof.Rows L2
end Dl
end
section
namespace Dl
open PySem PySem.Spec PyProof.Rows L2
section
variable {X : Cx} {pos : Pos} {τa τb : TEd} {a b : Expr}
def dNix2 (P : Program) (w : World) (K : PySem.W.Frag) (τa τb : TEd) : TEd := fun Γ Kt => τa Γ fun q Γ1 => τb Γ1 fun p Γ2 => esc Γ2 p fun d Γ3 => ∃ i o ob xs ks e, q = .al i ∧ get Γ3 i = some o ∧ IsNd P w K o ob xs ∧ d = tupN ks ∧ (NestedKey.tup ks).depth ≤ 8 ∧ lkN xs (.tup ks) = some e ∧ Kt (.fz e) Γ3
theorem de_nix2 {P : Program} {w : World} {K : PySem.W.Frag} (hP : X.prog = P) (hw : X.w = w) (hK : X.K = K) (hu : X.A.units + 65 < cLine) (ha : DE X a τa) (hb : DE X b τb) (hs : NoSl b := by exact fun _ _ => rfl) : DE X (.Subscript a b pos) (dNix2 P w K τa τb) := by
  subst hP hw hK
  exact peI (pe_nget hu ha hb hs) fun σ H Q ⟨G0, Γ, T, F, Kt, R1, k, q⟩ =>
  ⟨G0, Γ, T, F, _, R1, k, fun o Γ1 v H1 k1 R2 => ⟨G0, Γ1, (v, o) :: T, F, _, R2, k1, fun p Γ2 w H2 k2 R3 => by
    obtain ⟨d, Γ3, ⟨i, o', ob, xs, ks, e, rfl, g2, hn, rfl, hd, hl, k3⟩, R4⟩ := R3.escape k2
    obtain ⟨ad, kvs, G, h0, h1, h2, h3, h4, h5, h6⟩ := R4.nd g2 hn
    have ev : σ[i]? = some (some v) := R4.al v i (List.mem_cons_of_mem _ List.mem_cons_self)
    rw [h0] at ev
    cases ev
    have hy := h5 w (tupN ks) List.mem_cons_self
    rcases dqN_get h4 (.tup ks) with ⟨_, z⟩ | ⟨u', e', q1, q2, q3⟩
    · rw [hl] at z; cases z
    · rw [hl] at q2
      cases q2
      refine ⟨ad, ob, kvs, G, ks, u', rfl, h1, h2, h3, hy, hd, q1, q _ Γ3 u' H2 k3 ?_⟩
      exact Rel.take1 (M := [(w, .fz (tupN ks)), (.ref ad, .al i)]) R4.fit R4.al.tail.tail (fun _ z => nomatch z) (h6 u' e q3).r⟩⟩
end
end Dl
end
section
set_option maxHeartbeats 4000000
namespace Dl
open PySem PySem.Spec PyProof.Rows L2
theorem one_le_size : 1 ≤ sizeLine := by rw [sizeLine_eq]; omega
section
variable {X : Cx} {pos : Pos} {tk tv : TE} {k v : Expr} {τk τv : TEd}
def tNDisp (P : Program) (w : World) (K : PySem.W.Frag) (tk tv : TE) : TE := fun σ H Q => ∀ p, H p = none → (p == sysModules) = false → tk σ (upd H p (NO p { cls := .type "dict", data := .dict #[] })) fun y H1 => tv σ H1 fun u H2 => H2 p = some (NO p { cls := .type "dict", data := .dict #[] }) ∧
  ∃ G ks, Same G H2 ∧ Dq K G y (tupN ks) ∧ (NestedKey.tup ks).depth ≤ 8 ∧ ∀ ob', NdD P w K G p ob' [(.tup ks, u)] → Q (.ref p) (upd H2 p (NO p ob'))
theorem pe_ndisp (hu : X.A.units + 65 < cLine) (hk : PE X k tk) (hv : PE X v tv) : PE X (.Dict [some k] [v] pos) (tNDisp X.prog X.w X.K tk tv) := by
  refine ⟨fun pins s σ H Q I q => ?_⟩
  have hn := I.hok.fresh (Nat.le_refl s.heap.objs.size)
  have hsm : (s.heap.objs.size == sysModules) = false := beq_eq_false_iff_ne.mpr (Ne.symm (Nat.ne_of_lt I.big))
  have I1 := I.laid (a := s.heap.objs.size) (o := NO s.heap.objs.size { cls := .type "dict", data := .dict #[] }) (h' := s.heap.push { cls := .type "dict", data := .dict #[] }) (t' := s.toks) (fun _ _ q => Heap.get?_push_of_some _ q) (Nat.le_refl _) ⟨Heap.get?_push_size _ rfl, ⟨_, Heap.get?_push_size _ rfl⟩, fun h1 h2 e k => k _ e⟩
  have hp : PPs X pos [some k] [v] [(tk, tv)] := pps_cons hk hv pps_nil
  refine wpAny_Dict_any rfl rfl (by simp) (Nat.le_of_ble_eq_true rfl) (thn (hp.run pins _ σ _ (fun ps H2 => match ps with
    | [(y, u)] => H2 s.heap.objs.size = some (NO s.heap.objs.size { cls := .type "dict", data := .dict #[] }) ∧ ∃ G ks, Same G H2 ∧ Dq X.K G y (tupN ks) ∧ (NestedKey.tup ks).depth ≤ 8 ∧ ∀ ob', NdD X.prog X.w X.K G s.heap.objs.size ob' [(.tup ks, u)] → Q (.ref s.heap.objs.size) (upd H2 s.heap.objs.size (NO s.heap.objs.size ob'))
    | _ => False) I1 (q _ hn hsm)) fun ws s2 ⟨ps, H2, I2, rel, q2⟩ => ?_)
  cases rel with
  | nil => exact q2.elim
  | @cons yu kv _ _ r1 r2 =>
    cases r2 with
    | cons _ _ => exact q2.elim
    | nil =>
      obtain ⟨y, u⟩ := yu
      obtain ⟨ky, vv⟩ := kv
      obtain ⟨e, G, ks, sg, hy, hd, q2⟩ := q2
      obtain ⟨b, e1, e2, ki⟩ := key_nd I2 sg hy hd r1.1
      have e1 : y = .ref b := e1
      have e2 : ky = .ref b := e2
      subst e1 e2
      have n0 : NdD X.prog X.w X.K G s.heap.objs.size { cls := .type "dict", data := .dict #[] } [] := NdD.nil hsm
      obtain ⟨z1, z2, xs, p, dd⟩ := nd_of I2 e sg n0
      cases p
      have hl : ([] : List (NK × Addr × Value)).length + [(NestedKey.tup ks, b, vv)].length ≤ sizeLine := one_le_size
      refine wpAny_storeAllH (knd := nestedKind X.prog X.w) (show X.A.units + 8 < cLine by omega) [(.ref b, vv)] [(.tup ks, b, vv)] [] s2 _ ⟨rfl, rfl, ki, trivial⟩ dd hl fun h' tk' dd' hs => ?_
      obtain ⟨o', es, ep, hq, h2, h3, h4, _, h5⟩ := dd'
      have hx : Paired (EntN X.K G) [(NestedKey.tup ks, u)] [(NestedKey.tup ks, b, vv)] := .cons ⟨rfl, by rw [NestedKey.data]; exact hy, hd, r1.2⟩ .nil
      refine ⟨.ref s.heap.objs.size, _, ?_, rfl, q2 o' ⟨z1, one_le_size, _, es, ep, hx, h2, h3, h4, h5⟩⟩
      exact d_write I2 (by rw [e]; exact True.intro) hs ⟨o', hq⟩ ⟨hq, ⟨o', hq⟩, fun h1 h2 e k => k _ e⟩
end
section
variable {X : Cx} {pos : Pos} {k v : Expr} {τk τv : TEd}
def dNDisp (P : Program) (w : World) (K : PySem.W.Frag) (τk τv : TEd) : TEd := fun Γ Kt => τk Γ fun o Γ1 => τv Γ1 fun q Γ2 => esc Γ2 q fun d Γ3 => esc Γ3 o fun dk Γ4 => ∃ ks, dk = tupN ks ∧ (NestedKey.tup ks).depth ≤ 8 ∧ ∀ ob', Kt (ndO P w K ob' [(.tup ks, d)]) Γ4
theorem de_ndisp (hu : X.A.units + 65 < cLine) (hk : DE X k τk) (hv : DE X v τv) : DE X (.Dict [some k] [v] pos) (dNDisp X.prog X.w X.K τk τv) := peI (pe_ndisp hu hk hv) fun σ H Q ⟨G0, Γ, T, F, Kt, R1, kk, q⟩ p hp hsm => by
  have R1' : Rel X.K G0 ((.ref p, ndO X.prog X.w X.K emptyD []) :: T) F σ (upd H p (NO p emptyD)) Γ := ⟨R1.fit, R1.al.cons (by intro _ z; cases z), R1.r.newN hp hsm⟩
  refine ⟨G0, Γ, (.ref p, ndO X.prog X.w X.K emptyD []) :: T, F, _, R1', kk, fun o Γ1 y H1 k1 R2 => ⟨G0, Γ1, (y, o) :: (.ref p, ndO X.prog X.w X.K emptyD []) :: T, F, _, R2, k1, fun qo Γ2 u H2 k2 R3 => ?_⟩⟩
  obtain ⟨d, Γ3, k3, R4⟩ := R3.escape k2
  obtain ⟨dk, Γ4, ⟨ks, rfl, hd, k4⟩, R5⟩ := (R4.toF).escape k3
  have R6 := R5.ofF
  have r : R X.K G0 H2 ((.ref p, ndO X.prog X.w X.K emptyD []) :: ([(u, .fz d), (y, .fz (tupN ks))] ++ (T ++ (ents σ Γ4 ++ F)))) := R6.r.perm (show ([(u, O.fz d), (y, .fz (tupN ks))] ++ ((V.ref p, ndO X.prog X.w X.K emptyD []) :: (T ++ (ents σ Γ4 ++ F)))).Perm _ from List.perm_middle)
  obtain ⟨dd, kvs, G, e0, n1, n2, n3, n4, n5, n6⟩ := R.ndput r
  cases e0
  refine ⟨n1, G, ks, n2, n5 y _ (List.mem_append_left _ (List.mem_cons_of_mem _ List.mem_cons_self)), hd, fun ob' nn => q _ Γ4 _ _ (k4 ob') ⟨R6.fit, (R6.al.tail.tail.tail).cons (by intro _ z; cases z), ?_⟩⟩
  have r2 := n6 ob' [(.tup ks, u)] [(.tup ks, d)] nn (.cons ⟨rfl, n5 u d (List.mem_append_left _ List.mem_cons_self)⟩ .nil)
  have r3 := r2.perm (show ((V.ref p, ndO X.prog X.w X.K ob' [(.tup ks, d)]) :: ([(u, O.fz d), (y, .fz (tupN ks))] ++ (T ++ (ents σ Γ4 ++ F)))).Perm ([(u, O.fz d), (y, .fz (tupN ks))] ++ ((V.ref p, ndO X.prog X.w X.K ob' [(.tup ks, d)]) :: (T ++ (ents σ Γ4 ++ F)))) from List.perm_middle.symm)
  exact R.dropL r3
def rLenN (P : Program) (w : World) (K : PySem.W.Frag) : List V → Hp → VK → Prop := fun xs H Q => ∃ a ob kvs G, xs = [V.ref a] ∧ H a = some (NO a ob) ∧ Same G H ∧ NdD P w K G a ob kvs ∧ Q (.int ((kvs.length : Nat) : Int)) H
theorem call_lenN : CallR X (.builtin "len") (rLenN X.prog X.w X.K) := by
  intro pins s σ H xs us Q I r h
  obtain ⟨a, ob, kvs, G, rfl, e1, e2, e3, q⟩ := h
  obtain ⟨u, rfl, rx⟩ := vals1 r
  obtain rfl : u = .ref a := rx
  obtain ⟨z1, z2, ys, p, dd⟩ := nd_of I e1 e2 e3
  have hl : kvs.length = ys.length := Paired.length p
  refine call_len_dictH z1 dd (by rw [← hl]; rw [sizeLine_eq] at z2; omega) ?_
  rw [← hl]
  exact ⟨.int ((kvs.length : Nat) : Int), H, I.tok _, ⟨_, rfl⟩, q⟩
def dLenN (P : Program) (w : World) (K : PySem.W.Frag) (Γ : Gm) (os : List O) (Kt : O → Gm → Prop) : Prop := ∃ i o ob xs, os = [.al i] ∧ get Γ i = some o ∧ IsNd P w K o ob xs ∧ Kt (.fz (.int xs.length)) Γ
theorem fit_lenN {P : Program} {w : World} : FitC X.K (rLenN P w X.K) (dLenN P w X.K) := fun G0 Γ T F σ H vs os Kt Q hl R1 h q => by
  obtain ⟨i, o, ob, xs, rfl, g, hn, h⟩ := h
  match vs, hl with
  | [v], _ =>
    have R1 : Rel X.K G0 ((v, .al i) :: T) F σ H Γ := R1
    obtain ⟨d, kvs, G, h0, e1, e2, e3, e4, e5, e6⟩ := R1.nd g hn
    have ev : σ[i]? = some (some v) := R1.al v i List.mem_cons_self
    rw [h0] at ev
    cases ev
    refine ⟨d, ob, kvs, G, rfl, e1, e2, e3, ?_⟩
    rw [dqN_len e4]
    exact q _ Γ _ H h (R1.drop.push fun _ => .int _)
end
end Dl
end
section
set_option maxHeartbeats 4000000
namespace Dl
open PySem PySem.Spec PyProof.Rows L2
section
variable {X : Cx} {W : WX} {a b : Expr} {τa : TEx} {τb : TEd} {pos : Pos} {k : Nat}
variable {τa2 τb2 : TEx}
def xEq2 (τa τb : TEx) : TEx := fun Γ Kt Ke => τa Γ (fun o Γ1 => τb Γ1 (fun p Γ2 => dEq2 id Γ2 o p Kt) Ke) Ke
theorem dxe_eq2 (hr : Room k X.A) (ha : DEXe X W a τa2) (hb : DEXe X W b τb2) : DEXe X W (.Compare a [.Eq] [b] pos) (xEq2 τa2 τb2) :=
  peI (pe_cmpR (op_eqD hr.units) ha hb (nomark _)) fun σ H Q ⟨G0, Γ, T, F, Kt, Ke, R1, k, q, qe⟩ => ⟨G0, Γ, T, F, _, Ke, R1, k, fun o Γ1 v H1 k1 R2 => ⟨G0, Γ1, (v, o) :: T, F, _, Ke, R2, k1, fun p Γ2 w H2 k2 R3 => fit_eq G0 Γ2 T F σ H2 v w o p Kt Q R3 k2 q, qe⟩, qe⟩
def xLt2 (τa τb : TEx) : TEx := fun Γ Kt Ke => τa Γ (fun o Γ1 => τb Γ1 (fun p Γ2 => onI2 o p fun i j => Kt (.fz (.bool (decide (i < j)))) Γ2) Ke) Ke
theorem dxe_lt2 (ha : DEXe X W a τa2) (hb : DEXe X W b τb2) : DEXe X W (.Compare a [.Lt] [b] pos) (xLt2 τa2 τb2) :=
  peI (pe_cmpR op_lt ha hb (nomark _)) fun σ H Q ⟨G0, Γ, T, F, Kt, Ke, R1, k, q, qe⟩ => ⟨G0, Γ, T, F, _, Ke, R1, k, fun o Γ1 v H1 k1 R2 => ⟨G0, Γ1, (v, o) :: T, F, _, Ke, R2, k1, fun p Γ2 w H2 k2 R3 => fit_intB G0 Γ2 T F σ H2 v w o p Kt Q R3 k2 q, qe⟩, qe⟩
end
section
variable {X : Cx} {pos p0 : Pos} {x : Str} {τa : TEd} {a : Expr}
theorem flat_vints : ∀ ns : List Int, (ns.map V.int).all flatV = true
  | [] => rfl
  | _ :: ns => by rw [List.map_cons, List.all_cons, flat_vints ns]; rfl
def dIdxI (τo : TEd) (τs : TAd) : TEd := fun Γ Kt => τo Γ fun o Γ1 => ∃ ns : List Int, o = .own (ns.map .int) ∧ τs Γ1 fun os Γ2 => ∃ (y : Int) (j : Nat), os = [.fz (.int y)] ∧ ns[j]? = some y ∧ (∀ m < j, ns[m]? ≠ some y) ∧ Kt (.fz (.int j)) Γ2
theorem de_idxI {o e : Expr} {ap cp : Pos} {τo : TEd} {τs : TAd} (ho : DE X o τo) (ha : DA X [e] τs) (h1 : attributeBase o "index" X.env (eval o X.env) = eval o X.env := by rfl) (h3 : (ap.endLine == cp.line) = true := by rfl)
    (h2 : ((backTo cp (starEach [e] X.env)).all (fun z => !z.1) && (backToKw cp (keywordEach [] X.env)).all (fun z => z.1.isSome) && decide (([e].length + ([] : List Keyword).length + if ([] : List Keyword).isEmpty = true then 0 else 1) < 30)) = true := by rfl)
    (h4 : starEach [e] X.env = (false, eval e X.env) :: starEach [] X.env := by rfl) : DE X (.Call (.Attribute o "index" ap) [e] [] cp) (dIdxI τo τs) :=
  peI (pe_bm PySem.F.plainAttrs_list PySem.F.slot_list_index PySem.F.type_list_index mt_index ho ha h1 h2 h3 h4) fun σ H Q ⟨G0, Γ, T, F, Kt, R1, k, q⟩ => ⟨G0, Γ, T, F, _, R1, k, fun o Γ1 v H1 ⟨ns, eo, k1⟩ R2 => by
    subst eo
    obtain ⟨a, vs, rfl, e1, _⟩ := R.itemsO R2.r
    refine ⟨.inl ⟨rfl, vs, SqL.of e1⟩, G0, Γ1, (.ref a, .own (ns.map .int)) :: T, F, _, R2, k1, fun os Γ2 ws H2 k2 hl R3 => ?_⟩
    obtain ⟨y, j, rfl, hj, hno, k3⟩ := k2
    match ws, hl with
    | [w], _ =>
      have R3 : Rel X.K G0 ((w, .fz (.int y)) :: (.ref a, .own (ns.map .int)) :: T) F σ H2 Γ2 := R3
      obtain rfl := R.int R3.r
      have hd := R.seen R3.drop.r (show see (.own (ns.map .int)) = some (.list (ns.map .int)) from rfl)
      obtain ⟨a', ea, h1⟩ := dq_lint hd
      cases ea
      refine ⟨a, ns.map V.int, .int y, j, .int y, rfl, rfl, SqL.of h1, rfl, flat_vints ns, ?_, ?_, fun m z' hm hz => ?_, q _ Γ2 _ _ k3 (R3.drop.drop.push fun _ => .int _)⟩
      · rw [List.getElem?_map, hj]; rfl
      · show (y == y) = true
        exact beq_self_eq_true y
      · rw [List.getElem?_map] at hz
        obtain ⟨n, hn, rfl⟩ := Option.map_eq_some_iff.mp hz
        show (n == y) = false
        refine beq_eq_false_iff_ne.mpr fun e => hno m hm ?_
        rw [hn, e]⟩
def dIsNdT (P : Program) (w : World) (K : PySem.W.Frag) (τ : TEd) : TTd := fun Γ Kt => τ Γ fun o Γ1 => (∃ i ob xs, o = .al i ∧ get Γ1 i = some (ndO P w K ob xs) ∧ Kt false Γ1) ∨ ∃ b, nonOf o = some b ∧ Kt b Γ1
theorem dt_isNd {j p'} (ha : DE X a τa) : DT X (.Compare a [.Is] [.Constant .none j p'] pos) (dIsNdT X.prog X.w X.K τa) := ptI (pt_cmp (pc_isN ha)) fun σ H Q ⟨G0, Γ, T, F, Kt, R1, k, q⟩ => ⟨G0, Γ, T, F, _, R1, k, fun o Γ1 v H1 k1 R2 => by
  rcases k1 with ⟨i, ob, xs, rfl, g, k1⟩ | ⟨b, hb, k1⟩
  · obtain ⟨d, kvs, G, h0, h1, h2, h3, h4, h5, h6⟩ := R2.nd g (.inl rfl)
    have ev : σ[i]? = some (some v) := R2.al v i List.mem_cons_self
    rw [h0] at ev
    cases ev
    exact ⟨_, rfl, q _ Γ1 H1 k1 R2.drop⟩
  · exact ⟨_, rfl, q _ Γ1 H1 (nonOf_use (A := fun b => Kt b Γ1) R2 (by rw [hb]; exact k1)) R2.drop⟩⟩
theorem de_isX3 {e : Expr} {τ : TEd} {p p1 p2 p3 p4 : Pos} {x1 x2 x3 : Str} {c1 c2 c3 : V} {u1 u2 u3 : Value} {kk : Nat} (hc1 : ClsN X x1 c1 u1) (hc2 : ClsN X x2 c2 u2) (hc3 : ClsN X x3 c3 u3) (he : DE X e τ) (hm : X.mg "isinstance" = none) (hg : Gl X "isinstance" := by rfl) (hg1 : Gl X x1 := by rfl) (hd1 : (x1 == ("__debug__" : Str)) = false := by decide) (hg2 : Gl X x2 := by rfl) (hd2 : (x2 == ("__debug__" : Str)) = false := by decide) (hg3 : Gl X x3 := by rfl) (hd3 : (x3 == ("__debug__" : Str)) = false := by decide)
    (hs : starEach (e :: [.Tuple [.Name x1 p1, .Name x2 p2, .Name x3 p4] kk p3]) X.env = (false, eval e X.env) :: starEach [.Tuple [.Name x1 p1, .Name x2 p2, .Name x3 p4] kk p3] X.env := by rfl) (hs1 : starEach (.Tuple [.Name x1 p1, .Name x2 p2, .Name x3 p4] kk p3 :: []) X.env = (false, eval (.Tuple [.Name x1 p1, .Name x2 p2, .Name x3 p4] kk p3) X.env) :: starEach [] X.env := by rfl)
    (hs2 : starEach (.Name x1 p1 :: [.Name x2 p2, .Name x3 p4]) X.env = (false, eval (.Name x1 p1) X.env) :: starEach [.Name x2 p2, .Name x3 p4] X.env := by rfl) (hs3 : starEach (.Name x2 p2 :: [.Name x3 p4]) X.env = (false, eval (.Name x2 p2) X.env) :: starEach [.Name x3 p4] X.env := by rfl) (hs4 : starEach (.Name x3 p4 :: []) X.env = (false, eval (.Name x3 p4) X.env) :: starEach [] X.env := by rfl)
    (hpl : (backTo pos (starEach [.Tuple [.Name x1 p1, .Name x2 p2, .Name x3 p4] kk p3] X.env)).any (·.1) = false := by rfl) :
    DE X (.Call (.Name "isinstance" p) [e, .Tuple [.Name x1 p1, .Name x2 p2, .Name x3 p4] kk p3] [] pos) (dIsX2 X.K [u1, u2, u3] τ) :=
  peI (pe_callB call_isXT hg hm (by decide +kernel) (pa_cons he (pa_cons (pe_tup (pa_cons (hc1.pe hg1 hd1) (pa_cons (hc2.pe hg2 hd2) (pa_cons (hc3.pe hg3 hd3) pa_nil hs4) hs3) hs2)) pa_nil hs1) hs) (by decide) (by decide) hs hpl) fun σ H Q ⟨G0, Γ, Tm, F, Kt, R1, k, q⟩ => ⟨G0, Γ, Tm, F, _, R1, k, fun o Γ1 v H1 k1 R2 => by
    refine ⟨by show 3 ≤ sizeLine; decide, fun n hn => ?_⟩
    have sm : Same H1 (upd H1 n (.tup [c1, c2, c3])) := same_upd hn
    obtain ⟨t, h1, b, h2, h3⟩ := onCls_use2 sm R2 k1
    exact ⟨v, n, _, t, [u1, u2, u3], b, rfl, upd_same, .cons hc1.v (.cons hc2.v (.cons hc3.v .nil)), h1, h2, q _ Γ1 _ _ h3 ((R2.drop.grow sm).push fun _ => .bl _)⟩⟩
end
end Dl
end
section
namespace Kx
open PySem PySem.Spec PyProof.Rows L2 Dl
def phCan : List PyData → (O → Prop) → Prop := fun ds Kt => ∃ (L : Lin) (S : Std) (t : Int) (s : Str), ds = [lineD L, stdD S, .int t, .str s] ∧ S.length = L.length ∧ L.length ≤ 40 ∧ kindsOk L ∧ SideOk s ∧ t ∈ S.flatten ∧ Kt (.fz (.bool (canAt L S t s)))
def phGone : List PyData → (O → Prop) → Prop := fun ds Kt => ∃ (L : Lin) (S : Std) (t : Int) (s : Str), ds = [lineD L, stdD S, .int t, .str s] ∧ S.length = L.length ∧ L.length ≤ 40 ∧ kindsOk L ∧ S.flatten.length ≤ 40 ∧ SideOk s ∧ t ∈ S.flatten ∧ canAt L S t s = true ∧ Kt (.fz (stdD (goneT L S (plT S t) t s)))
def phHops : List PyData → (O → Prop) → Prop := fun ds Kt => ∃ (L : Lin) (S : Std), ds = [lineD L, stdD S] ∧ S.length = L.length ∧ L.length ≤ 40 ∧ kindsOk L ∧ S.flatten.length ≤ 40 ∧ Kt (.own (hopsT L S))
end Kx
end
section
namespace Kx
open PySem PySem.Spec PyProof.Rows L2 Dl
theorem blkF_ends (J : Nat → Bool) : ∀ n, (∀ p ∈ (blkF J n).1, J p.2 = false ∧ (p.1 = 0 ∨ J (p.1 - 1) = false)) ∧ ((blkF J n).2 = 0 ∨ J ((blkF J n).2 - 1) = false)
  | 0 => ⟨fun p h => absurd h (by simp [blkF]), .inl rfl⟩
  | n + 1 => by
    obtain ⟨h1, h2⟩ := blkF_ends J n
    unfold blkF
    split
    · exact ⟨h1, h2⟩
    · rename_i hj
      have hj : J n = false := by simpa using hj
      refine ⟨fun p hp => ?_, .inr hj⟩
      rcases List.mem_append.mp hp with hp | hp
      · exact h1 p hp
      · rw [List.mem_singleton] at hp
        subst hp
        exact ⟨hj, h2⟩
theorem blks_ends {L : Lin} {m : Nat} {p : Nat × Nat} (h : p ∈ blksT L m) : jnT L m p.2 = false ∧ (p.1 = 0 ∨ jnT L m (p.1 - 1) = false) := (blkF_ends (jnT L m) m).1 p h
theorem slN_mid {α : Type} {A P B : List α} {f g : Nat} (h1 : f ≤ A.length) (h2 : A.length + P.length ≤ g) : slN (A ++ (P ++ B)) f g = A.drop f ++ (P ++ B.take (g - A.length - P.length)) := by
  unfold slN
  rw [List.drop_append_of_le_length h1, List.take_append, List.take_append, List.length_drop]
  rw [List.take_of_length_le (by rw [List.length_drop]; omega), List.take_of_length_le (by omega)]
  congr 3
  omega
theorem slN_left {α : Type} {A B : List α} {f g : Nat} (h : g ≤ A.length) : slN (A ++ B) f g = slN A f g := by
  unfold slN
  by_cases hf : f ≤ A.length
  · rw [List.drop_append_of_le_length hf, List.take_append_of_le_length (by rw [List.length_drop]; omega)]
  · have e : g - f = 0 := by omega
    rw [e, List.take_zero, List.take_zero]
theorem slN_right {α : Type} {A B : List α} {f g : Nat} (h : A.length ≤ f) : slN (A ++ B) f g = slN B (f - A.length) (g - A.length) := by
  unfold slN
  rw [List.drop_append, List.drop_of_length_le h, List.nil_append]
  congr 1
  omega
theorem sortI_congr {a b : List Int} (h : a.Perm b) : sortI a = sortI b := sorted_uniq ((sortI_perm a).trans (h.trans (sortI_perm b).symm)) (sortI_sorted a) (sortI_sorted b)
theorem grps_mix {L : Lin} {A P P' B : List Int} (hp : P.Perm P') (hj : ∀ j, A.length ≤ j → j + 1 < A.length + P.length → jnT L (A ++ (P ++ B)).length j = true) : grpsT L (A ++ (P ++ B)) = grpsT L (A ++ (P' ++ B)) := by
  have hl := hp.length_eq
  by_cases h0 : P.length = 0
  · have e1 : P = [] := List.eq_nil_of_length_eq_zero h0
    have e2 : P' = [] := List.eq_nil_of_length_eq_zero (by omega)
    rw [e1, e2]
  have em : (A ++ (P' ++ B)).length = (A ++ (P ++ B)).length := by
    rw [List.length_append, List.length_append, List.length_append, List.length_append, hl]
  unfold grpsT
  rw [em]
  refine List.map_congr_left fun p hp2 => sortI_congr ?_
  obtain ⟨q1, q2⟩ := blks_ends hp2
  obtain ⟨q3, q4⟩ := blks_mem hp2
  have c1 : p.1 ≤ A.length ∨ A.length + P.length ≤ p.1 := by
    by_cases c : p.1 ≤ A.length
    · exact .inl c
    · by_cases c2 : A.length + P.length ≤ p.1
      · exact .inr c2
      · rcases q2 with q2 | q2
        · omega
        · rw [hj (p.1 - 1) (by omega) (by omega)] at q2
          cases q2
  have c2 : p.2 + 1 ≤ A.length ∨ A.length + P.length ≤ p.2 + 1 := by
    by_cases c : p.2 + 1 ≤ A.length
    · exact .inl c
    · by_cases c2 : A.length + P.length ≤ p.2 + 1
      · exact .inr c2
      · rw [hj p.2 (by omega) (by omega)] at q1
        cases q1
  rcases c1 with c1 | c1
  · rcases c2 with c2 | c2
    · rw [slN_left c2, slN_left c2]
    · rw [slN_mid c1 c2, slN_mid c1 (by omega), hl]
      exact List.Perm.append_left _ (hp.append_right _)
  · rw [← List.append_assoc, ← List.append_assoc, slN_right (by rw [List.length_append]; omega), slN_right (by rw [List.length_append]; omega), List.length_append, List.length_append, hl]
theorem cap_ge : ∀ {S : Std} {L : Lin}, S.length = L.length → (∀ i, i < L.length → ((S.getD i []).length : Int) ≤ (L.getD i z0).2) → (S.flatten.length : Int) ≤ caps L
  | [], [], _, _ => Int.le_refl _
  | l :: S, x :: L, h, k => by
    have h1 := cap_ge (S := S) (L := L) (by simpa using h) fun i hi => by simpa using k (i + 1) (by simpa using hi)
    have h2 := k 0 (by simp)
    simp only [List.getD_cons_zero] at h2
    have e : caps (x :: L) = x.2 + caps L := by
      unfold caps
      rw [List.map_cons, List.sum_cons]
    rw [e, List.flatten_cons, List.length_append]
    omega
  | [], _ :: _, h, _ => by simp at h
  | _ :: _, [], h, _ => by simp at h
theorem cap_take {L : Lin} {S : Std} (hS : Scn L S) (k : Nat) : ((S.take k).flatten.length : Int) ≤ caps (L.take k) := cap_ge (by rw [List.length_take, List.length_take, hS.len]) fun i hi => by
  rw [List.length_take] at hi
  have := hS.room i (by omega)
  rw [List.getD_eq_getElem?_getD, List.getElem?_take_of_lt (by omega), List.getD_eq_getElem?_getD, List.getElem?_take_of_lt (by omega), ← List.getD_eq_getElem?_getD, ← List.getD_eq_getElem?_getD]
  exact this
theorem cap_drop {L : Lin} {S : Std} (hS : Scn L S) (k : Nat) : ((S.drop k).flatten.length : Int) ≤ caps (L.drop k) := cap_ge (by rw [List.length_drop, List.length_drop, hS.len]) fun i hi => by
  rw [List.length_drop] at hi
  have := hS.room (k + i) (by omega)
  rw [List.getD_eq_getElem?_getD, List.getElem?_drop, List.getD_eq_getElem?_getD, List.getElem?_drop, ← List.getD_eq_getElem?_getD, ← List.getD_eq_getElem?_getD]
  exact this
theorem flat_cut (S : Std) (k : Nat) : S.flatten.length = (S.take k).flatten.length + (S.drop k).flatten.length := by
  conv => lhs; rw [← List.take_append_drop k S]
  rw [List.flatten_append, List.length_append]
/-- the positions of a place lie in its window -/
theorem win_low {L : Lin} {S : Std} (hS : Scn L S) (i : Nat) : lowT L S.flatten.length i ≤ ((S.take i).flatten.length : Nat) := by
  have h1 := flat_cut S i
  have h2 := cap_drop hS i
  rw [caps_drop] at h2
  unfold lowT
  split <;> omega
theorem win_high {L : Lin} {S : Std} (hS : Scn L S) {i : Nat} (h : i < S.length) : (((S.take i).flatten.length + (S.getD i []).length : Nat) : Int) ≤ highT L i := by
  have h1 := cap_take hS (i + 1)
  rw [flat_at h, List.length_append] at h1
  exact h1
theorem join_of {L : Lin} {m i j : Nat} (hi : i < L.length) (hm : mixT L i = true) (h1 : lowT L m i ≤ (j : Int)) (h2 : (j : Int) + 2 ≤ highT L i) (h3 : j + 1 < m) : jnT L m j = true := by
  unfold jnT
  refine decide_eq_true (List.mem_filter.mpr ⟨List.mem_range.mpr (by omega), List.any_eq_true.mpr ⟨i, List.mem_filter.mpr ⟨List.mem_range.mpr hi, hm⟩, ?_⟩⟩)
  rw [decide_eq_true h1, decide_eq_true h2]
  rfl
theorem win_join {L : Lin} {S : Std} (hS : Scn L S) {i j : Nat} (hi : i < S.length) (hy : (L.getD i z0).1 = "yard") (h1 : (S.take i).flatten.length ≤ j) (h2 : j + 1 < (S.take i).flatten.length + (S.getD i []).length) : jnT L S.flatten.length j = true := by
  have hl := hS.len
  have a := win_low hS i
  have b := win_high hS hi
  have c := hS.room i (by omega)
  have d := flat_cut S (i + 1)
  rw [flat_at hi, List.length_append] at d
  refine join_of (i := i) (by omega) ?_ (by omega) (by omega) (by omega)
  unfold mixT
  rw [decide_eq_true hy, decide_eq_true (by omega)]
  rfl
theorem join_is {L : Lin} {m j : Nat} (h : jnT L m j = true) : j + 1 < m ∧ ∃ i, i < L.length ∧ mixT L i = true ∧ lowT L m i ≤ (j : Int) ∧ (j : Int) + 2 ≤ highT L i := by
  have h := of_decide_eq_true h
  obtain ⟨h1, h2⟩ := List.mem_filter.mp h
  obtain ⟨i, h3, h4⟩ := List.any_eq_true.mp h2
  obtain ⟨h5, h6⟩ := List.mem_filter.mp h3
  obtain ⟨h7, h8⟩ := Bool.and_eq_true_iff.mp h4
  have := List.mem_range.mp h1
  exact ⟨by omega, i, List.mem_range.mp h5, h6, of_decide_eq_true h7, of_decide_eq_true h8⟩
theorem set_take' {α : Type} : ∀ (l : List α) (i k : Nat) (x : α), k ≤ i → (l.set i x).take k = l.take k
  | [], _, _, _, _ => by simp
  | _ :: _, _, 0, _, _ => by simp
  | a :: l, 0, k + 1, x, h => by omega
  | a :: l, i + 1, k + 1, x, h => by
    rw [List.set_cons_succ, List.take_succ_cons, List.take_succ_cons, set_take' l i k x (by omega)]
theorem set_drop' {α : Type} : ∀ (l : List α) (i k : Nat) (x : α), i < k → (l.set i x).drop k = l.drop k
  | [], _, _, _, _ => by simp
  | _ :: _, _, 0, _, h => by omega
  | a :: l, 0, k + 1, x, h => by simp
  | a :: l, i + 1, k + 1, x, h => by
    rw [List.set_cons_succ, List.drop_succ_cons, List.drop_succ_cons, set_drop' l i k x (by omega)]
theorem std_two {S : Std} {i : Nat} (h : i + 1 < S.length) : S.flatten = (S.take i).flatten ++ (S.getD i [] ++ (S.getD (i + 1) [] ++ (S.drop (i + 2)).flatten)) := by
  rw [std_split (S := S) (i := i) (by omega)]
  congr 2
  rw [List.drop_eq_getElem_cons h, List.flatten_cons]
  congr 1
  rw [List.getD_eq_getElem?_getD, List.getElem?_eq_getElem h]
  rfl
theorem last_split {l : List Int} (hn : l.Nodup) (h : 0 < l.length) : l = dropT l (l.getD (l.length - 1) 0) ++ [l.getD (l.length - 1) 0] := by
  obtain ⟨a, x, rfl⟩ : ∃ a x, l = a ++ [x] := ⟨l.dropLast, l.getLast (by intro z; simp [z] at h), (List.dropLast_concat_getLast _).symm⟩
  rw [get_last, drop_snoc, drop_id]
  exact fun z => (List.nodup_append.mp hn).2.2 x z x (by simp) rfl
theorem first_split {l : List Int} (hn : l.Nodup) (h : 0 < l.length) : l = l.getD 0 0 :: dropT l (l.getD 0 0) := by
  cases l with
  | nil => simp at h
  | cons x l =>
    rw [List.getD_cons_zero, drop_cons, drop_id]
    exact (List.nodup_cons.mp hn).1
section
variable {L : Lin} {S : Std} {i q : Nat} {t : Int} {s : Str}
theorem drop_perm2 {l : List Int} (hn : l.Nodup) {t : Int} (h : t ∈ l) : l.Perm (dropT l t ++ [t]) := (drop_perm hn h).symm.trans (List.perm_append_comm (l₁ := [t]) (l₂ := dropT l t))
theorem gone_grps (hS : Scn L S) (hs : SideOk s) (p : Step L S i q t s) : grpsT L (goneT L S i t s).flatten = grpsT L S.flatten := by
  have hG := gone_scn hS p
  have hGl := gone_len p
  have hm := gone_many p hS.nodup
  have hil := p.il
  have hql := p.ql
  have gi := gone_i p
  have gq := gone_q p
  have hni := place_nodup hS.nodup p.il
  have h0 : 0 < (S.getD i []).length := List.length_pos_of_mem p.mem
  rcases hs with rfl | rfl
  · -- to the left
    have e : nbT i "left" = (i : Int) - 1 := rfl
    have h1 := p.nb
    rw [e] at h1
    obtain rfl : i = q + 1 := by omega
    have eS := std_two (S := S) (i := q) hil
    have eG := std_two (S := goneT L S (q + 1) t "left") (i := q) (by omega)
    rw [gi, gq] at eG
    have t1 : (goneT L S (q + 1) t "left").take q = S.take q := by
      rw [gone_is p, set_take' _ _ _ _ (Nat.le_refl _), set_take' _ _ _ _ (by omega)]
    have t2 : (goneT L S (q + 1) t "left").drop (q + 2) = S.drop (q + 2) := by
      rw [gone_is p, set_drop' _ _ _ _ (by omega), set_drop' _ _ _ _ (by omega)]
    rw [t1, t2] at eG
    -- the train comes to the front of its place
    have s1 : grpsT L S.flatten = grpsT L ((S.take q).flatten ++ ((S.getD q [] ++ [t]) ++ (dropT (S.getD (q + 1) []) t ++ (S.drop (q + 2)).flatten))) := by
      have e2 : (S.take q).flatten ++ ((S.getD q [] ++ [t]) ++ (dropT (S.getD (q + 1) []) t ++ (S.drop (q + 2)).flatten)) = ((S.take q).flatten ++ S.getD q []) ++ ((t :: dropT (S.getD (q + 1) []) t) ++ (S.drop (q + 2)).flatten) := by simp
      have e3 : S.flatten = ((S.take q).flatten ++ S.getD q []) ++ (S.getD (q + 1) [] ++ (S.drop (q + 2)).flatten) := by
        conv => lhs; rw [eS]
        simp
      by_cases hy : (L.getD (q + 1) z0).1 = "yard"
      · rw [e2]
        conv => lhs; rw [e3]
        refine grps_mix (drop_perm hni p.mem).symm fun j j1 j2 => ?_
        rw [← e3]
        have e4 : (S.take (q + 1)).flatten = (S.take q).flatten ++ S.getD q [] := flat_at hql
        exact win_join hS hil hy (by rw [e4]; exact j1) (by rw [e4]; exact j2)
      · have ht : t = endT S (q + 1) "left" := p.leave.resolve_left hy
        have ht : t = (S.getD (q + 1) []).getD 0 0 := ht
        have e5 := first_split hni h0
        rw [← ht] at e5
        rw [e2, ← e5, ← e3]
    rw [s1, eG]
    by_cases hy : (L.getD q z0).1 = "yard"
    · refine grps_mix ((ent_perm (L := L) (S := S) (q := q) (t := t) (s := "left")).trans (List.perm_append_comm (l₁ := [t]))) fun j j1 j2 => ?_
      have e6 : ((S.take q).flatten ++ (entT L S q t "left" ++ (dropT (S.getD (q + 1) []) t ++ (S.drop (q + 2)).flatten))).length = (goneT L S (q + 1) t "left").flatten.length := by rw [eG]
      rw [e6]
      refine win_join hG (i := q) (by omega) hy (by rw [t1]; exact j1) (by rw [t1, gq]; exact j2)
    · have e7 : entT L S q t "left" = S.getD q [] ++ [t] := by
        unfold entT
        rw [if_neg hy, if_neg (by decide)]
      rw [e7]
  · -- to the right
    have e : nbT i "right" = (i : Int) + 1 := rfl
    have h1 := p.nb
    rw [e] at h1
    obtain rfl : q = i + 1 := by omega
    have eS := std_two (S := S) (i := i) hql
    have eG := std_two (S := goneT L S i t "right") (i := i) (by omega)
    rw [gi, gq] at eG
    have t1 : (goneT L S i t "right").take i = S.take i := by
      rw [gone_is p, set_take' _ _ _ _ (by omega), set_take' _ _ _ _ (Nat.le_refl _)]
    have t2 : (goneT L S i t "right").drop (i + 2) = S.drop (i + 2) := by
      rw [gone_is p, set_drop' _ _ _ _ (by omega), set_drop' _ _ _ _ (by omega)]
    have t3 : ((goneT L S i t "right").take (i + 1)).flatten = (S.take i).flatten ++ dropT (S.getD i []) t := by
      rw [flat_at (by omega), t1, gi]
    rw [t1, t2] at eG
    have s1 : grpsT L S.flatten = grpsT L (((S.take i).flatten ++ dropT (S.getD i []) t) ++ ((t :: S.getD (i + 1) []) ++ (S.drop (i + 2)).flatten)) := by
      have e2 : ((S.take i).flatten ++ dropT (S.getD i []) t) ++ ((t :: S.getD (i + 1) []) ++ (S.drop (i + 2)).flatten) = (S.take i).flatten ++ ((dropT (S.getD i []) t ++ [t]) ++ (S.getD (i + 1) [] ++ (S.drop (i + 2)).flatten)) := by simp
      rw [e2]
      by_cases hy : (L.getD i z0).1 = "yard"
      · conv => lhs; rw [eS]
        refine grps_mix (drop_perm2 hni p.mem) fun j j1 j2 => ?_
        rw [← eS]
        exact win_join hS hil hy j1 j2
      · have ht : t = endT S i "right" := p.leave.resolve_left hy
        have ht : t = (S.getD i []).getD ((S.getD i []).length - 1) 0 := ht
        have e5 := last_split hni h0
        rw [← ht] at e5
        rw [← e5, ← eS]
    rw [s1]
    have eG2 : (goneT L S i t "right").flatten = ((S.take i).flatten ++ dropT (S.getD i []) t) ++ (entT L S (i + 1) t "right" ++ (S.drop (i + 2)).flatten) := by
      conv => lhs; rw [eG]
      simp
    by_cases hy : (L.getD (i + 1) z0).1 = "yard"
    · conv => lhs; rw [eG2]
      refine grps_mix (ent_perm (L := L) (S := S) (q := i + 1) (t := t) (s := "right")) fun j j1 j2 => ?_
      rw [← eG2]
      refine win_join hG (i := i + 1) (by omega) hy (by rw [t3]; exact j1) (by rw [t3, gq]; exact j2)
    · have e7 : entT L S (i + 1) t "right" = t :: S.getD (i + 1) [] := by
        unfold entT
        rw [if_neg hy, if_pos (by decide)]
      rw [eG2, e7]
end
end Kx
end
section
namespace Kx
open PySem PySem.Spec PyProof.Rows L2 Dl
def allowB (L : Lin) (m i b : Nat) : Bool := decide (lowT L m i ≤ (((blksT L m).getD b (0, 0)).2 : Nat)) && decide ((((blksT L m).getD b (0, 0)).1 : Nat) < highT L i)
def allowN (L : Lin) (m i n : Nat) : List Nat := (List.range n).filter (allowB L m i)
def allowT (L : Lin) (m i : Nat) : List Nat := allowN L m i (blksT L m).length
theorem allow_len (L : Lin) (m i n : Nat) : (allowN L m i n).length ≤ n := by
  have := List.length_filter_le (allowB L m i) (List.range n)
  rw [List.length_range] at this
  exact this
theorem allow_at (L : Lin) (m i n : Nat) : allowN L m i (n + 1) = allowN L m i n ++ (if allowB L m i n = true then [n] else []) := filt_at n
def phBlocksAt : List PyData → (O → Prop) → Prop := fun ds Kt => ∃ (d : PyData) (L : Lin) (m : Nat), ds = [d, .int m] ∧ Ln d L ∧ L.length ≤ 40 ∧ kindsOk L ∧ m ≤ 40 ∧ Kt (.own ((List.range L.length).map fun i => .list (natsD (allowT L m i))))
def placesN (L : Lin) (m b n : Nat) : List Nat := (List.range n).filter fun i => decide (b ∈ allowT L m i)
def placesT (L : Lin) (m b : Nat) : List Nat := placesN L m b L.length
theorem places_at (L : Lin) (m b n : Nat) : placesN L m b (n + 1) = placesN L m b n ++ (if b ∈ allowT L m n then [n] else []) := by
  unfold placesN
  rw [filt_at]
  by_cases h : b ∈ allowT L m n
  · rw [if_pos h, if_pos (decide_eq_true h)]
  · rw [if_neg h, if_neg (by rw [decide_eq_false h]; exact Bool.false_ne_true)]
theorem places_len (L : Lin) (m b n : Nat) : (placesN L m b n).length ≤ n := by
  have := List.length_filter_le (fun i => decide (b ∈ allowT L m i)) (List.range n)
  rw [List.length_range] at this
  exact this
def phPlacesOf (cN : Addr) : List PyData → (O → Prop) → (XS → Prop) → Prop := fun ds Kt Ke => ∃ (d e : PyData) (L : Lin) (S : Std) (t : Int), ds = [d, e, .int t] ∧ Ln d L ∧ St e S ∧ L.length ≤ 40 ∧ kindsOk L ∧ S.flatten.length ≤ 40 ∧
  (∀ b, InGrp L S.flatten t b → Kt (.own (natsD (placesT L S.flatten.length b)))) ∧ (NoGrp L S.flatten t → Ke (cN, some (("train" : Str), PyData.int t)))
theorem range_map_at {α : Type} (f : Nat → α) (n : Nat) : (List.range (n + 1)).map f = (List.range n).map f ++ [f n] := by rw [List.range_succ, List.map_append]; rfl
end Kx
namespace Kx
open PySem PySem.Spec PyProof.Rows L2 Dl
theorem grp_cover {L : Lin} {r : List Int} {t : Int} (h : t ∈ r) : ∃ b, b < (grpsT L r).length ∧ t ∈ (grpsT L r).getD b [] := by
  obtain ⟨j, hj, e⟩ := List.getElem_of_mem h
  have hr := blks_range L r.length
  have hm : j ∈ List.range' 0 r.length := List.mem_range'_1.mpr ⟨Nat.zero_le _, by omega⟩
  rw [← hr] at hm
  obtain ⟨l, hl, hjl⟩ := List.mem_flatten.mp hm
  obtain ⟨p, hp, rfl⟩ := List.mem_map.mp hl
  obtain ⟨b, hb, eb⟩ := List.getElem_of_mem hp
  have h1 := List.mem_range'_1.mp hjl
  have h2 := blks_mem hp
  refine ⟨b, by unfold grpsT; rw [List.length_map]; exact hb, ?_⟩
  have e1 : (grpsT L r).getD b [] = sortI (slN r p.1 (p.2 + 1)) := by
    unfold grpsT
    rw [List.getD_eq_getElem?_getD, List.getElem?_map, List.getElem?_eq_getElem hb, eb]
    rfl
  rw [e1]
  refine (sortI_perm _).mem_iff.mpr (mem_slN (j := j) h1.1 (by omega) ?_)
  rw [List.getElem?_eq_getElem hj, e]
/-- the number of the group that holds a train -/
def gIx (G : List (List Int)) (t : Int) : Nat := G.findIdx fun g => decide (t ∈ g)
theorem gIx_is {G : List (List Int)} {t : Int} {b : Nat} (h : b < G.length) (ht : t ∈ G.getD b []) (hn : ∀ b', b' < b → t ∉ G.getD b' []) : gIx G t = b := by
  unfold gIx
  refine List.findIdx_eq h |>.mpr ⟨decide_eq_true ?_, fun j hj => ?_⟩
  · rw [List.getD_eq_getElem?_getD, List.getElem?_eq_getElem h] at ht
    exact ht
  · have := hn j hj
    rw [List.getD_eq_getElem?_getD, List.getElem?_eq_getElem (by omega)] at this
    exact decide_eq_false this
theorem inGrp_of {L : Lin} {r : List Int} {t : Int} {b : Nat} (hn : r.Nodup) (h : b < (grpsT L r).length) (ht : t ∈ (grpsT L r).getD b []) : InGrp L r t b := ⟨h, ht, fun b' hb' k => grps_one hn k ht hb'⟩
theorem inGrp_ix {L : Lin} {r : List Int} {t : Int} {b : Nat} (h : InGrp L r t b) : gIx (grpsT L r) t = b := gIx_is h.1 h.2.1 h.2.2
theorem ix_inGrp {L : Lin} {r : List Int} {t : Int} (hn : r.Nodup) (h : t ∈ r) : InGrp L r t (gIx (grpsT L r) t) := by
  obtain ⟨b, h1, h2⟩ := grp_cover (L := L) h
  have := inGrp_of hn h1 h2
  rw [inGrp_ix this]
  exact this
theorem grps_length (L : Lin) (r : List Int) : (grpsT L r).length = (blksT L r.length).length := by unfold grpsT; rw [List.length_map]
/-- where a train of a block stands in the order -/
theorem pos_block {L : Lin} {r : List Int} {t : Int} {b p : Nat} (hn : r.Nodup) (h : InGrp L r t b) (hp : r[p]? = some t) : ((blksT L r.length).getD b (0, 0)).1 ≤ p ∧ p ≤ ((blksT L r.length).getD b (0, 0)).2 := by
  obtain ⟨q, e1, e2⟩ := grps_at h.1
  have ht := h.2.1
  rw [e2] at ht
  obtain ⟨j, j1, j2, j3⟩ := slN_mem ((sortI_perm _).mem_iff.mp ht)
  have := nodup_at hn j3 hp
  rw [List.getD_eq_getElem?_getD, e1]
  show q.1 ≤ p ∧ p ≤ q.2
  omega
theorem block_pos {L : Lin} {r : List Int} {b p : Nat} (hn : r.Nodup) (h1 : ((blksT L r.length).getD b (0, 0)).1 ≤ p) (h2 : p ≤ ((blksT L r.length).getD b (0, 0)).2) (hb : b < (blksT L r.length).length) {t : Int} (ht : r[p]? = some t) : gIx (grpsT L r) t = b := by
  refine inGrp_ix (inGrp_of hn (by rw [grps_length]; exact hb) ?_)
  obtain ⟨q, e1, e2⟩ := grps_at (L := L) (r := r) (b := b) (by rw [grps_length]; exact hb)
  rw [List.getD_eq_getElem?_getD, e1] at h1 h2
  rw [e2]
  exact (sortI_perm _).mem_iff.mpr (mem_slN (j := p) h1 (Nat.lt_succ_of_le h2) ht)
theorem allow_has {L : Lin} {m i b p : Nat} (hb : b < (blksT L m).length) (h1 : ((blksT L m).getD b (0, 0)).1 ≤ p) (h2 : p ≤ ((blksT L m).getD b (0, 0)).2) (h3 : lowT L m i ≤ (p : Int)) (h4 : (p : Int) < highT L i) : b ∈ allowT L m i := by
  refine List.mem_filter.mpr ⟨List.mem_range.mpr hb, ?_⟩
  unfold allowB
  rw [decide_eq_true (by omega), decide_eq_true (by omega)]
  rfl
theorem places_has {L : Lin} {m i b : Nat} (hi : i < L.length) (h : b ∈ allowT L m i) : i ∈ placesT L m b := List.mem_filter.mpr ⟨List.mem_range.mpr hi, decide_eq_true h⟩
/-- the train at index j of place i stands at that position of the order -/
theorem std_pos {S : Std} {i j : Nat} (hi : i < S.length) (hj : j < (S.getD i []).length) : S.flatten[(S.take i).flatten.length + j]? = some ((S.getD i []).getD j 0) := by
  rw [std_split hi, List.getElem?_append_right (by omega), List.getElem?_append_left (by omega)]
  rw [show (S.take i).flatten.length + j - (S.take i).flatten.length = j by omega]
  generalize S.getD i [] = l at hj
  rw [List.getElem?_eq_getElem hj, List.getD_eq_getElem?_getD, List.getElem?_eq_getElem hj]
  rfl
end Kx
namespace Kx
open PySem PySem.Spec PyProof.Rows L2 Dl
theorem std_get {S : Std} {i : Nat} (h : i < S.length) : (S.map fun l => PyData.tuple (l.map PyData.int)).getD i .none = .tuple ((S.getD i []).map .int) := getD_map (f := fun l => PyData.tuple (l.map PyData.int)) [] h
theorem line_get {L : Lin} {i : Nat} (h : i < L.length) : (L.map placeD).getD i .none = .tuple [.str (L.getD i z0).1, .int (L.getD i z0).2] := getD_map z0 h
theorem atI_nat {α : Type} {ds : List α} {n : Nat} (e : α) (h : n < ds.length) : atI ds (n : Int) = some (ds.getD n e) := by
  rw [atI_ok (e := e) (by omega) (by omega), Int.toNat_natCast]
end Kx
namespace Kx
open PySem PySem.Spec PyProof.Rows L2 Dl
theorem blk_mem {L : Lin} {m b : Nat} (h : b < (blksT L m).length) : (blksT L m).getD b (0, 0) ∈ blksT L m := getD_mem2 (0, 0) h
theorem run_block {L : Lin} {m b a n : Nat} (hb : b < (blksT L m).length) (h2 : a ≤ ((blksT L m).getD b (0, 0)).2) (hj : ∀ j, a ≤ j → j + 1 < a + n → jnT L m j = true) : ∀ j, j < n → a + j ≤ ((blksT L m).getD b (0, 0)).2
  | 0, _ => h2
  | j + 1, h => by
    have h3 := run_block hb h2 hj j (by omega)
    by_cases q : a + j = ((blksT L m).getD b (0, 0)).2
    · have e := (blks_ends (blk_mem hb)).1
      rw [← q, hj (a + j) (by omega) (by omega)] at e
      cases e
    · omega
/-- the trains of one yard are of one group -/
theorem yard_same {L : Lin} {S : Std} (hS : Scn L S) {i : Nat} (hi : i < S.length) (hy : (L.getD i z0).1 = "yard") : ∃ x, ∀ t ∈ S.getD i [], gIx (grpsT L S.flatten) t = x := by
  by_cases h0 : (S.getD i []).length = 0
  · exact ⟨0, fun t ht => absurd (List.length_pos_of_mem ht) (by omega)⟩
  · have hp := std_pos (j := 0) hi (by omega)
    have hg := ix_inGrp (L := L) hS.nodup (List.mem_of_getElem? hp)
    have hb := pos_block hS.nodup hg hp
    have hl : gIx (grpsT L S.flatten) ((S.getD i []).getD 0 0) < (blksT L S.flatten.length).length := by rw [← grps_length]; exact hg.1
    refine ⟨gIx (grpsT L S.flatten) ((S.getD i []).getD 0 0), fun t ht => ?_⟩
    obtain ⟨j, hj, e⟩ := List.getElem_of_mem ht
    have hpj := std_pos hi hj
    have e2 : (S.getD i []).getD j 0 = t := by rw [List.getD_eq_getElem?_getD, List.getElem?_eq_getElem hj, e]; rfl
    rw [e2] at hpj
    exact block_pos hS.nodup (by omega) (run_block (n := (S.getD i []).length) hl hb.2 (fun j j1 j2 => win_join hS hi hy (by omega) (by omega)) j hj) hl hpj
end Kx
namespace Kx
open PySem PySem.Spec PyProof.Rows L2 Dl
theorem no_noGrp {L : Lin} {r : List Int} {t : Int} (h : t ∈ r) : ¬ NoGrp L r t := fun k => by
  obtain ⟨b, h1, h2⟩ := grp_cover (L := L) h
  exact k b h1 h2
end Kx
end
section
namespace Kx
open PySem PySem.Spec PyProof.Rows L2 Dl
theorem caps_take_le {L : Lin} (hK : kindsOk L) (n : Nat) : caps (L.take n) ≤ caps L := by
  have h1 := caps_nonneg (kinds_drop hK n)
  rw [caps_drop] at h1
  omega
end Kx
end
section
namespace Kx
open PySem PySem.Spec PyProof.Rows L2 Dl
theorem blkF_tail (J : Nat → Bool) : ∀ n, (∀ j, (blkF J n).2 ≤ j → j < n → J j = true) ∧ ∀ p ∈ (blkF J n).1, ∀ j, p.1 ≤ j → j < p.2 → J j = true
  | 0 => ⟨fun j _ h => by omega, fun p h => absurd h (by simp [blkF])⟩
  | n + 1 => by
    obtain ⟨h1, h2⟩ := blkF_tail J n
    unfold blkF
    split
    · rename_i hj
      refine ⟨fun j a b => ?_, h2⟩
      by_cases q : j = n
      · rw [q]; exact hj
      · exact h1 j a (by omega)
    · refine ⟨fun j a b => absurd a (by simp; omega), fun p hp j a b => ?_⟩
      rcases List.mem_append.mp hp with hp | hp
      · exact h2 p hp j a b
      · rw [List.mem_singleton] at hp
        subst hp
        exact h1 j a b
theorem take_slN (r : List Int) {s n : Nat} (h : s ≤ n) : r.take n = r.take s ++ slN r s n := by
  unfold slN
  conv => lhs; rw [show n = s + (n - s) by omega]
  rw [List.take_add]
theorem sortI_iff {a b : List Int} : sortI a = sortI b ↔ a.Perm b := ⟨fun h => (sortI_perm a).symm.trans (h ▸ sortI_perm b), sortI_congr⟩
theorem blkF_cut (J : Nat → Bool) (r r' : List Int) : ∀ n, ((blkF J n).1.map (fun p => sortI (slN r p.1 (p.2 + 1))) = (blkF J n).1.map (fun p => sortI (slN r' p.1 (p.2 + 1)))) ↔
    ∀ c, c ≤ (blkF J n).2 → (c = 0 ∨ J (c - 1) = false) → (r.take c).Perm (r'.take c)
  | 0 => by
    constructor
    · intro _ c hc _
      have hc : c ≤ 0 := hc
      rw [show c = 0 by omega]
      simp
    · intro _; rfl
  | n + 1 => by
    have ih := blkF_cut J r r' n
    have ht := (blkF_tail J n).1
    have he := (blkF_ends J n).2
    have hle := (blkF_le J n).1
    unfold blkF
    split
    · exact ih
    · rename_i hj
      have hj : J n = false := by simpa using hj
      generalize hs : (blkF J n).2 = s at ih ht he hle
      rw [List.map_append, List.map_append]
      have split_eq : ∀ {a a' : List (List Int)} {x x' : List Int}, a.length = a'.length → (a ++ [x] = a' ++ [x'] ↔ a = a' ∧ x = x') := fun hl => by
        constructor
        · intro h
          have := List.append_inj h hl
          exact ⟨this.1, by simpa using this.2⟩
        · rintro ⟨rfl, rfl⟩; rfl
      rw [show List.map (fun p : Nat × Nat => sortI (slN r p.1 (p.2 + 1))) [(s, n)] = [sortI (slN r s (n + 1))] from rfl, show List.map (fun p : Nat × Nat => sortI (slN r' p.1 (p.2 + 1))) [(s, n)] = [sortI (slN r' s (n + 1))] from rfl, split_eq (by simp), ih, sortI_iff]
      have e1 := take_slN r (s := s) (n := n + 1) (by omega)
      have e2 := take_slN r' (s := s) (n := n + 1) (by omega)
      constructor
      · rintro ⟨h1, h2⟩ c hc hcut
        by_cases q : c ≤ s
        · exact h1 c q hcut
        · have ec : c = n + 1 := by
            rcases hcut with hcut | hcut
            · omega
            · by_cases q2 : c - 1 = n
              · omega
              · rw [ht (c - 1) (by omega) (by have hc : c ≤ n + 1 := hc; omega)] at hcut
                cases hcut
          rw [ec, e1, e2]
          exact (h1 s (Nat.le_refl _) he).append h2
      · intro h
        have h0 := h s (by show s ≤ n + 1; omega) he
        refine ⟨fun c hc hcut => h c (by show c ≤ n + 1; omega) hcut, ?_⟩
        have h3 := h (n + 1) (Nat.le_refl _) (.inr (by rw [show n + 1 - 1 = n by omega]; exact hj))
        rw [e1, e2] at h3
        refine List.perm_iff_count.mpr fun x => ?_
        have c1 := h3.count_eq x
        have c2 := h0.count_eq x
        rw [List.count_append, List.count_append] at c1
        omega
/-- equal groups, by the cuts -/
theorem grps_cut {L : Lin} {r r' : List Int} (hl : r.length = r'.length) : grpsT L r = grpsT L r' ↔ ∀ c, c ≤ r.length → (c = 0 ∨ jnT L r.length (c - 1) = false) → (r.take c).Perm (r'.take c) := by
  unfold grpsT
  rw [← hl]
  have h := blkF_cut (jnT L r.length) r r' r.length
  rw [blks_end L r.length] at h
  exact h
end Kx
end
section
namespace Kx
open PySem PySem.Spec PyProof.Rows L2 Dl
theorem caps_mono {L : Lin} (hK : kindsOk L) {i j : Nat} (h : i ≤ j) : caps (L.take i) ≤ caps (L.take j) := by
  obtain ⟨k, rfl⟩ : ∃ k, j = i + k := ⟨j - i, by omega⟩
  induction k with
  | zero => exact Int.le_refl _
  | succ k ih =>
    have h1 := ih (by omega)
    by_cases hl : i + k < L.length
    · have h2 := caps_take hl
      have h3 := (hK _ hl).2
      rw [show i + (k + 1) = i + k + 1 from rfl]
      omega
    · rw [List.take_of_length_le (l := L) (i := i + (k + 1)) (by omega)]
      rw [List.take_of_length_le (l := L) (i := i + k) (by omega)] at h1
      exact h1
end Kx
end
section
set_option maxHeartbeats 4000000
namespace Kx
open PySem PySem.Spec PyProof.Rows L2 Dl
def phRail3 : Nat → List PyData → (O → Nat → Prop) → Prop := fun m ds Kt => ∃ most top : Int, ds = [.int most, .int top] ∧ 1 ≤ most ∧ most ≤ 20 ∧ 1 ≤ top ∧ top < 1000000 ∧ m < 2 ^ 59 ∧
  ∀ (L : Lin) (m' : Nat), 1 ≤ L.length → (L.length : Int) ≤ most → kindsOk L → sizesLe L (max top 3) → m' ≤ m + 100 → Kt (.fz (lineD L)) m'
def phScene3 : Nat → List PyData → (O → Nat → Prop) → Prop := fun m ds Kt => ∃ most top cars : Int, ds = [.int most, .int top, .int cars] ∧ 1 ≤ most ∧ most ≤ 20 ∧ 1 ≤ top ∧ top < 1000000 ∧ 0 ≤ cars ∧ cars ≤ 40 ∧ m < 2 ^ 57 ∧
  ∀ (L : Lin) (S : Std) (m' : Nat), 1 ≤ L.length → (L.length : Int) ≤ most → kindsOk L → sizesLe L (max top 3) → Scn L S → (S.flatten.length : Int) ≤ cars → (S.flatten.length : Int) ≤ caps L → m' ≤ m + 300 → Kt (.fz (.tuple [lineD L, stdD S])) m'
end Kx
end
section
set_option maxHeartbeats 4000000
namespace Kx
open PySem PySem.Spec PyProof.Rows L2 Dl
abbrev cu (C : List Int) (i : Nat) : Int := C.getD i 0
def segC (r C : List Int) (i : Nat) : List Int := slN r (cu C i).toNat (cu C (i + 1)).toNat
def atC (L : Lin) (r C : List Int) (i : Nat) : List Int := if (L.getD i z0).1 = "yard" then sortI (segC r C i) else segC r C i
def stdC (L : Lin) (r C : List Int) : Std := (List.range L.length).map (atC L r C)
structure CutOk (L : Lin) (m : Nat) (C : List Int) : Prop where
  len : C.length = L.length + 1
  zero : cu C 0 = 0
  top : cu C L.length = m
  mono : ∀ i, i < L.length → cu C i ≤ cu C (i + 1)
  room : ∀ i, i < L.length → cu C (i + 1) - cu C i ≤ (L.getD i z0).2
section
variable {L : Lin} {m : Nat} {C G r : List Int}
theorem CutOk.le (h : CutOk L m C) : ∀ {i j : Nat}, i ≤ j → j ≤ L.length → cu C i ≤ cu C j
  | i, 0, h1, _ => by
    have : i = 0 := by omega
    subst this
    exact Int.le_refl _
  | i, j + 1, h1, h2 => by
    by_cases e : i = j + 1
    · subst e; exact Int.le_refl _
    · have h3 := h.le (i := i) (j := j) (by omega) (by omega)
      have h4 := h.mono j (by omega)
      omega
theorem CutOk.nn (h : CutOk L m C) {i : Nat} (hi : i ≤ L.length) : 0 ≤ cu C i := by
  have := h.le (Nat.zero_le i) hi
  rw [h.zero] at this
  exact this
theorem CutOk.lm (h : CutOk L m C) {i : Nat} (hi : i ≤ L.length) : cu C i ≤ m := by
  have := h.le hi (Nat.le_refl _)
  rw [h.top] at this
  exact this
def difs (L : Lin) (C : List Int) : List Int := (List.range L.length).map fun i => cu C (i + 1) - cu C i
theorem difs_at {i : Nat} (h : i < L.length) : (difs L C).getD i 0 = cu C (i + 1) - cu C i := by
  unfold difs
  rw [List.getD_eq_getElem?_getD, List.getElem?_map, List.getElem?_range h]
  rfl
theorem difs_len : (difs L C).length = L.length := by unfold difs; rw [List.length_map, List.length_range]
theorem difs_sum (h0 : cu C 0 = 0) : ∀ i, i ≤ L.length → ((difs L C).take i).sum = cu C i
  | 0, _ => by
    rw [List.take_zero]
    exact h0.symm
  | i + 1, hi => by
    have h1 := difs_sum h0 i (by omega)
    rw [sum_take (by rw [difs_len]; omega), h1, difs_at (by omega)]
    omega
theorem CutOk.fits (h : CutOk L m C) : Kx.fits L (difs L C) := ⟨difs_len, fun i hi => by
  rw [difs_at hi]
  have h1 := h.mono i hi
  have h2 := h.room i hi
  omega⟩
theorem stdC_park (h : CutOk L m C) : stdC L r C = parkS L r (difs L C) := by
  unfold stdC parkS
  refine List.map_congr_left fun i hi => ?_
  have hi := List.mem_range.mp hi
  unfold atC parkAt segC
  rw [difs_sum h.zero i (by omega), difs_sum h.zero (i + 1) (by omega)]
theorem CutOk.sum (h : CutOk L r.length C) : (difs L C).sum = r.length := by
  have h1 := difs_sum (L := L) h.zero L.length (Nat.le_refl _)
  rw [List.take_of_length_le (by rw [difs_len]; exact Nat.le_refl _), h.top] at h1
  exact h1
theorem scn_C (h : CutOk L r.length C) (hn : r.Nodup) (h0 : ∀ x ∈ r, 0 ≤ x ∧ x < 2 ^ 40) : Scn L (stdC L r C) := by
  rw [stdC_park h]
  exact scn_park h.fits h.sum hn h0
theorem perm_C (h : CutOk L r.length C) : (stdC L r C).flatten.Perm r := by
  rw [stdC_park h]
  exact park_all h.fits h.sum
theorem stdC_len : (stdC L r C).length = L.length := by unfold stdC; rw [List.length_map, List.length_range]
theorem stdC_at {i : Nat} (h : i < L.length) : (stdC L r C).getD i [] = atC L r C i := by
  unfold stdC
  rw [List.getD_eq_getElem?_getD, List.getElem?_map, List.getElem?_range h]
  rfl
theorem atC_perm (i : Nat) : (atC L r C i).Perm (segC r C i) := by
  unfold atC
  split
  · exact sortI_perm _
  · exact .refl _
theorem segC_len (h : CutOk L r.length C) {i : Nat} (hi : i < L.length) : ((segC r C i).length : Int) = cu C (i + 1) - cu C i := by
  unfold segC slN
  rw [List.length_take, List.length_drop]
  have h1 := h.mono i hi
  have h2 := h.nn (i := i) (by omega)
  have h3 := h.lm (i := i + 1) (by omega)
  omega
theorem atC_len (h : CutOk L r.length C) {i : Nat} (hi : i < L.length) : ((atC L r C i).length : Int) = cu C (i + 1) - cu C i := by
  rw [(atC_perm i).length_eq]
  exact segC_len h hi
theorem cu_set {k j : Nat} {x : Int} (h : k < C.length) : cu (C.set k x) j = if j = k then x else cu C j := by
  show (C.set k x).getD j 0 = _
  rw [List.getD_eq_getElem?_getD, List.getElem?_set]
  by_cases e : k = j
  · subst e
    simp [h]
  · rw [if_neg e, if_neg (Ne.symm e)]
    rfl
def cutsT (S : Std) : List Int := (List.range (S.length + 1)).map fun i => (((S.take i).flatten.length : Nat) : Int)
theorem cuts_at {S : Std} {i : Nat} (h : i ≤ S.length) : cu (cutsT S) i = ((S.take i).flatten.length : Nat) := by
  show (cutsT S).getD i 0 = _
  unfold cutsT
  rw [List.getD_eq_getElem?_getD, List.getElem?_map, List.getElem?_range (by omega)]
  rfl
theorem cuts_len (S : Std) : (cutsT S).length = S.length + 1 := by unfold cutsT; rw [List.length_map, List.length_range]
theorem cuts_step {S : Std} {i : Nat} (h : i < S.length) : ((S.take (i + 1)).flatten.length) = (S.take i).flatten.length + (S.getD i []).length := by
  rw [take_at [] h, List.flatten_append, List.length_append]
  simp
theorem cuts_ok {S : Std} (hS : Scn L S) : CutOk L S.flatten.length (cutsT S) where
  len := by rw [cuts_len, hS.len]
  zero := by rw [cuts_at (Nat.zero_le _)]; simp
  top := by rw [cuts_at (by rw [hS.len]; exact Nat.le_refl _), ← hS.len, List.take_length]
  mono := fun i hi => by
    rw [cuts_at (by rw [hS.len]; omega), cuts_at (by rw [hS.len]; omega), cuts_step (by rw [hS.len]; exact hi)]
    omega
  room := fun i hi => by
    rw [cuts_at (by rw [hS.len]; omega), cuts_at (by rw [hS.len]; omega), cuts_step (by rw [hS.len]; exact hi)]
    have := hS.room i hi
    omega
theorem cuts_std {S : Std} (hS : Scn L S) : stdC L S.flatten (cutsT S) = S := by
  refine std_ext (by rw [stdC_len, hS.len]) fun j hj => ?_
  rw [stdC_len] at hj
  have hj' : j < S.length := by rw [hS.len]; exact hj
  rw [stdC_at hj]
  have e : segC S.flatten (cutsT S) j = S.getD j [] := by
    unfold segC
    rw [cuts_at (by omega), cuts_at (by omega), cuts_step hj', Int.toNat_natCast, Int.toNat_natCast]
    unfold slN
    rw [std_split hj', List.drop_left' rfl, Nat.add_sub_cancel_left, List.take_left' rfl]
  unfold atC
  rw [e]
  split
  · exact sortI_id (hS.yard j hj (by assumption))
  · rfl
def dist : List Int → List Int → Nat
  | a :: C, b :: G => (a - b).natAbs + dist C G
  | _, _ => 0
theorem dist_set : ∀ {C G : List Int} {k : Nat} (x : Int), k < C.length → k < G.length → dist (C.set k x) G + (cu C k - cu G k).natAbs = dist C G + (x - cu G k).natAbs
  | a :: C, b :: G, 0, x, _, _ => by
    show (x - b).natAbs + dist C G + (a - b).natAbs = (a - b).natAbs + dist C G + (x - b).natAbs
    omega
  | a :: C, b :: G, k + 1, x, h1, h2 => by
    have h := dist_set (C := C) (G := G) (k := k) x (by simpa using h1) (by simpa using h2)
    show (a - b).natAbs + dist (C.set k x) G + (cu C k - cu G k).natAbs = (a - b).natAbs + dist C G + (x - cu G k).natAbs
    omega
  | [], _, _, _, h, _ => by cases h
  | _ :: _, [], _, _, _, h => by cases h
theorem dist_zero : ∀ {C G : List Int}, C.length = G.length → dist C G = 0 → C = G
  | [], [], _, _ => rfl
  | a :: C, b :: G, h, e => by
    have e : (a - b).natAbs + dist C G = 0 := e
    have e1 : a = b := by omega
    have e2 : C = G := dist_zero (by simpa using h) (by omega)
    rw [e1, e2]
  | [], _ :: _, h, _ => by cases h
  | _ :: _, [], h, _ => by cases h
theorem dist_self : ∀ C : List Int, dist C C = 0
  | [] => rfl
  | a :: C => by
    show (a - a).natAbs + dist C C = 0
    rw [dist_self C]
    omega
theorem set_cuts {k : Nat} {x : Int} (h : CutOk L m C) (hk : 0 < k) (hk2 : k < L.length) (h1 : cu C (k - 1) ≤ x) (h2 : x ≤ cu C (k + 1)) (h3 : x - cu C (k - 1) ≤ (L.getD (k - 1) z0).2) (h4 : cu C (k + 1) - x ≤ (L.getD k z0).2) : CutOk L m (C.set k x) := by
  have hl : k < C.length := by rw [h.len]; omega
  refine ⟨by rw [List.length_set, h.len], ?_, ?_, fun i hi => ?_, fun i hi => ?_⟩
  · rw [cu_set hl, if_neg (by omega)]
    exact h.zero
  · rw [cu_set hl, if_neg (by omega)]
    exact h.top
  · rw [cu_set hl, cu_set hl]
    have := h.mono i hi
    by_cases e1 : i = k
    · subst e1
      rw [if_pos rfl, if_neg (by omega)]
      exact h2
    · by_cases e2 : i + 1 = k
      · subst e2
        rw [if_neg e1, if_pos rfl]
        exact h1
      · rw [if_neg e1, if_neg e2]
        exact this
  · rw [cu_set hl, cu_set hl]
    have := h.room i hi
    by_cases e1 : i = k
    · subst e1
      rw [if_pos rfl, if_neg (by omega)]
      exact h4
    · by_cases e2 : i + 1 = k
      · subst e2
        rw [if_neg e1, if_pos rfl]
        exact h3
      · rw [if_neg e1, if_neg e2]
        exact this
theorem drop_sortI {l l' : List Int} {t : Int} (hp : (dropT l t).Perm l') : dropT (sortI l) t = sortI l' := by
  refine sorted_uniq ?_ (drop_sorted (sortI_sorted l) t) (sortI_sorted l')
  have h : (dropT (sortI l) t).Perm (dropT l t) := (sortI_perm l).filter _
  exact h.trans (hp.trans (sortI_perm l').symm)
/-- a train is the last of place a, the next place has room -/
theorem segC_right (h : CutOk L r.length C) {a : Nat} (ha : a + 1 < L.length) (h1 : cu C a < cu C (a + 1)) :
    segC r C a = segC r (C.set (a + 1) (cu C (a + 1) - 1)) a ++ [r.getD (cu C (a + 1) - 1).toNat 0] ∧ segC r (C.set (a + 1) (cu C (a + 1) - 1)) (a + 1) = r.getD (cu C (a + 1) - 1).toNat 0 :: segC r C (a + 1) := by
  have hl : a + 1 < C.length := by rw [h.len]; omega
  have n0 := h.nn (i := a) (by omega)
  have n1 := h.lm (i := a + 1) (by omega)
  have n2 := h.mono (a + 1) ha
  have n3 := h.lm (i := a + 1 + 1) (by omega)
  obtain ⟨p, hp⟩ : ∃ p : Nat, cu C (a + 1) - 1 = (p : Int) := ⟨(cu C (a + 1) - 1).toNat, by omega⟩
  obtain ⟨b, hb⟩ : ∃ b : Nat, cu C a = (b : Int) := ⟨(cu C a).toNat, by omega⟩
  obtain ⟨c, hc⟩ : ∃ c : Nat, cu C (a + 1 + 1) = (c : Int) := ⟨(cu C (a + 1 + 1)).toNat, by omega⟩
  have e1 : cu C (a + 1) = ((p + 1 : Nat) : Int) := by omega
  unfold segC
  rw [cu_set hl, cu_set hl, cu_set hl, if_neg (by omega), if_pos rfl, if_neg (by omega), hp, hb, hc, e1]
  simp only [Int.toNat_natCast]
  have hpl : p < r.length := by omega
  unfold slN
  constructor
  · rw [show p + 1 - b = (p - b) + 1 by omega, List.take_add_one, List.getElem?_drop, show b + (p - b) = p by omega, List.getElem?_eq_getElem hpl, List.getD_eq_getElem?_getD, List.getElem?_eq_getElem hpl]
    rfl
  · rw [List.drop_eq_getElem_cons hpl, show c - p = (c - (p + 1)) + 1 by omega, List.take_succ_cons, List.getD_eq_getElem?_getD, List.getElem?_eq_getElem hpl]
    rfl
/-- a train is the first of place a + 1, the place before has room -/
theorem segC_left (h : CutOk L r.length C) {a : Nat} (ha : a + 1 < L.length) (h1 : cu C (a + 1) < cu C (a + 1 + 1)) :
    segC r C (a + 1) = r.getD (cu C (a + 1)).toNat 0 :: segC r (C.set (a + 1) (cu C (a + 1) + 1)) (a + 1) ∧ segC r (C.set (a + 1) (cu C (a + 1) + 1)) a = segC r C a ++ [r.getD (cu C (a + 1)).toNat 0] := by
  have hl : a + 1 < C.length := by rw [h.len]; omega
  have n0 := h.nn (i := a) (by omega)
  have n1 := h.mono a (by omega)
  have n3 := h.lm (i := a + 1 + 1) (by omega)
  obtain ⟨p, hp⟩ : ∃ p : Nat, cu C (a + 1) = (p : Int) := ⟨(cu C (a + 1)).toNat, by omega⟩
  obtain ⟨b, hb⟩ : ∃ b : Nat, cu C a = (b : Int) := ⟨(cu C a).toNat, by omega⟩
  obtain ⟨c, hc⟩ : ∃ c : Nat, cu C (a + 1 + 1) = (c : Int) := ⟨(cu C (a + 1 + 1)).toNat, by omega⟩
  have e1 : cu C (a + 1) + 1 = ((p + 1 : Nat) : Int) := by omega
  unfold segC
  rw [cu_set hl, cu_set hl, cu_set hl, if_pos rfl, if_neg (by omega), if_neg (by omega), e1, hp, hb, hc]
  simp only [Int.toNat_natCast]
  have hpl : p < r.length := by omega
  unfold slN
  constructor
  · rw [List.drop_eq_getElem_cons hpl, show c - p = (c - (p + 1)) + 1 by omega, List.take_succ_cons, List.getD_eq_getElem?_getD, List.getElem?_eq_getElem hpl]
    rfl
  · rw [show p + 1 - b = (p - b) + 1 by omega, List.take_add_one, List.getElem?_drop, show b + (p - b) = p by omega, List.getElem?_eq_getElem hpl, List.getD_eq_getElem?_getD, List.getElem?_eq_getElem hpl]
    rfl
theorem seg_same {k i : Nat} {x : Int} (h : k < C.length) (h1 : i ≠ k) (h2 : i + 1 ≠ k) : segC r (C.set k x) i = segC r C i := by
  unfold segC
  rw [cu_set h, cu_set h, if_neg h1, if_neg h2]
end
end Kx
end
section
set_option maxHeartbeats 4000000
namespace Kx
open PySem PySem.Spec PyProof.Rows L2 Dl
section
variable {L : Lin} {m : Nat} {C G r : List Int}
theorem canAt_of {S : Std} {i q : Nat} {t : Int} {s : Str} (hat : AtPl S t i) (hq : nbT i s = (q : Int)) (hl : S.length = L.length) (hq2 : q < L.length) (hr : ((S.getD q []).length : Int) < (L.getD q z0).2) (hv : (L.getD i z0).1 = "yard" ∨ t = endT S i s) : canAt L S t s = true := by
  unfold canAt canB
  rw [pl_of hat, hq]
  refine Bool.and_eq_true_iff.mpr ⟨?_, ?_⟩
  · unfold roomB
    refine Bool.and_eq_true_iff.mpr ⟨Bool.and_eq_true_iff.mpr ⟨decide_eq_true (by omega), decide_eq_true (by omega)⟩, decide_eq_true ?_⟩
    rw [Int.toNat_natCast]
    exact hr
  · unfold leaveB
    rcases hv with hv | hv
    · rw [decide_eq_true hv]; rfl
    · rw [decide_eq_true hv, Bool.or_true]
theorem last_app (l : List Int) (t : Int) : (l ++ [t]).getD ((l ++ [t]).length - 1) 0 = t := by
  rw [List.length_append, List.getD_eq_getElem?_getD, List.getElem?_append_right (by simp)]
  simp
theorem cross_right (h : CutOk L r.length C) (hn : r.Nodup) (h0 : ∀ x ∈ r, 0 ≤ x ∧ x < 2 ^ 40) {a : Nat} (ha : a + 1 < L.length) (h1 : cu C a < cu C (a + 1)) (h2 : cu C (a + 1 + 1) - cu C (a + 1) < (L.getD (a + 1) z0).2) :
    r.getD (cu C (a + 1) - 1).toNat 0 ∈ (stdC L r C).flatten ∧ canAt L (stdC L r C) (r.getD (cu C (a + 1) - 1).toNat 0) "right" = true ∧
      goneT L (stdC L r C) (plT (stdC L r C) (r.getD (cu C (a + 1) - 1).toNat 0)) (r.getD (cu C (a + 1) - 1).toNat 0) "right" = stdC L r (C.set (a + 1) (cu C (a + 1) - 1)) ∧ CutOk L r.length (C.set (a + 1) (cu C (a + 1) - 1)) := by
  have hS := scn_C h hn h0
  obtain ⟨e1, e2⟩ := segC_right h ha h1
  have hl : a + 1 < C.length := by rw [h.len]; omega
  have hok : CutOk L r.length (C.set (a + 1) (cu C (a + 1) - 1)) := by
    have r1 := h.room a (by omega)
    have r2 := h.mono (a + 1) ha
    refine set_cuts h (by omega) ha ?_ ?_ ?_ ?_
    · rw [Nat.add_sub_cancel]; omega
    · omega
    · rw [Nat.add_sub_cancel]; omega
    · omega
  generalize ht : r.getD (cu C (a + 1) - 1).toNat 0 = t at e1 e2 ⊢
  generalize hC' : C.set (a + 1) (cu C (a + 1) - 1) = C' at e1 e2 hok ⊢
  have iS : a < (stdC L r C).length := by rw [stdC_len]; omega
  have mem : t ∈ (stdC L r C).getD a [] := by
    rw [stdC_at (by omega)]
    refine (atC_perm a).mem_iff.mpr ?_
    rw [e1]
    simp
  have hat := atPl_at hS.nodup iS mem
  have nd : (segC r C a).Nodup := (atC_perm (L := L) a).nodup_iff.mp (by
    rw [← stdC_at (r := r) (C := C) (by omega)]
    exact place_nodup hS.nodup iS)
  have hc : canAt L (stdC L r C) t "right" = true := by
    refine canAt_of hat (q := a + 1) (by show (a : Int) + 1 = _; omega) stdC_len ha ?_ ?_
    · rw [stdC_at ha, atC_len h ha]
      exact h2
    · by_cases hy : (L.getD a z0).1 = "yard"
      · exact .inl hy
      · refine .inr ?_
        unfold endT
        rw [if_pos (by rfl), stdC_at (by omega)]
        unfold atC
        rw [if_neg hy, e1, last_app]
  refine ⟨?_, hc, ?_, hok⟩
  · rw [std_split iS]
    exact List.mem_append_right _ (List.mem_append_left _ mem)
  · rw [pl_of hat]
    obtain ⟨q, p⟩ := step_of hS hat (.inr rfl) hc
    have hq : q = a + 1 := by
      have z := p.nb
      have z : (a : Int) + 1 = q := z
      omega
    subst hq
    refine std_ext (by rw [gone_len p, stdC_len, stdC_len]) fun j hj => ?_
    rw [gone_len p, stdC_len] at hj
    rw [stdC_at hj]
    have nl : t ∉ segC r C' a := by
      rw [e1] at nd
      have := List.nodup_append.mp nd
      exact fun z => this.2.2 t z t (by simp) rfl
    by_cases j1 : j = a
    · subst j1
      rw [gone_i p, stdC_at hj]
      unfold atC
      have ed : dropT (segC r C j) t = segC r C' j := by rw [e1, drop_snoc, drop_id nl]
      split
      · exact drop_sortI (by rw [ed])
      · exact ed
    · by_cases j2 : j = a + 1
      · subst j2
        rw [gone_q p]
        unfold entT
        rw [if_pos (show isR "right" = true from rfl), stdC_at hj]
        unfold atC
        by_cases hy : (L.getD (a + 1) z0).1 = "yard"
        · rw [if_pos hy, if_pos hy, if_pos hy, e2]
          exact sortI_congr ((sortI_perm _).cons _)
        · rw [if_neg hy, if_neg hy, if_neg hy, e2]
      · rw [gone_j p j1 j2, stdC_at hj]
        unfold atC
        rw [← hC', seg_same hl (by omega) (by omega)]
theorem cross_left (h : CutOk L r.length C) (hn : r.Nodup) (h0 : ∀ x ∈ r, 0 ≤ x ∧ x < 2 ^ 40) {a : Nat} (ha : a + 1 < L.length) (h1 : cu C (a + 1) < cu C (a + 1 + 1)) (h2 : cu C (a + 1) - cu C a < (L.getD a z0).2) :
    r.getD (cu C (a + 1)).toNat 0 ∈ (stdC L r C).flatten ∧ canAt L (stdC L r C) (r.getD (cu C (a + 1)).toNat 0) "left" = true ∧
      goneT L (stdC L r C) (plT (stdC L r C) (r.getD (cu C (a + 1)).toNat 0)) (r.getD (cu C (a + 1)).toNat 0) "left" = stdC L r (C.set (a + 1) (cu C (a + 1) + 1)) ∧ CutOk L r.length (C.set (a + 1) (cu C (a + 1) + 1)) := by
  have hS := scn_C h hn h0
  obtain ⟨e1, e2⟩ := segC_left h ha h1
  have hl : a + 1 < C.length := by rw [h.len]; omega
  have hok : CutOk L r.length (C.set (a + 1) (cu C (a + 1) + 1)) := by
    have r1 := h.mono a (by omega)
    have r2 := h.room (a + 1) ha
    refine set_cuts h (by omega) ha ?_ ?_ ?_ ?_
    · rw [Nat.add_sub_cancel]; omega
    · omega
    · rw [Nat.add_sub_cancel]; omega
    · omega
  generalize ht : r.getD (cu C (a + 1)).toNat 0 = t at e1 e2 ⊢
  generalize hC' : C.set (a + 1) (cu C (a + 1) + 1) = C' at e1 e2 hok ⊢
  have iS : a + 1 < (stdC L r C).length := by rw [stdC_len]; omega
  have mem : t ∈ (stdC L r C).getD (a + 1) [] := by
    rw [stdC_at ha]
    refine (atC_perm (a + 1)).mem_iff.mpr ?_
    rw [e1]
    simp
  have hat := atPl_at hS.nodup iS mem
  have nd : (segC r C (a + 1)).Nodup := (atC_perm (L := L) (a + 1)).nodup_iff.mp (by
    rw [← stdC_at (r := r) (C := C) ha]
    exact place_nodup hS.nodup iS)
  have hc : canAt L (stdC L r C) t "left" = true := by
    refine canAt_of hat (q := a) (by show ((a + 1 : Nat) : Int) - 1 = _; omega) stdC_len (by omega) ?_ ?_
    · rw [stdC_at (by omega), atC_len h (by omega)]
      exact h2
    · by_cases hy : (L.getD (a + 1) z0).1 = "yard"
      · exact .inl hy
      · refine .inr ?_
        unfold endT
        rw [if_neg (by decide), stdC_at ha]
        unfold atC
        rw [if_neg hy, e1]
        rfl
  refine ⟨?_, hc, ?_, hok⟩
  · rw [std_split iS]
    exact List.mem_append_right _ (List.mem_append_left _ mem)
  · rw [pl_of hat]
    obtain ⟨q, p⟩ := step_of hS hat (.inl rfl) hc
    have hq : q = a := by
      have z := p.nb
      have z : ((a + 1 : Nat) : Int) - 1 = q := z
      omega
    subst hq
    refine std_ext (by rw [gone_len p, stdC_len, stdC_len]) fun j hj => ?_
    rw [gone_len p, stdC_len] at hj
    rw [stdC_at hj]
    have nl : t ∉ segC r C' (q + 1) := by
      rw [e1] at nd
      exact (List.nodup_cons.mp nd).1
    by_cases j1 : j = q + 1
    · subst j1
      rw [gone_i p, stdC_at hj]
      unfold atC
      have ed : dropT (segC r C (q + 1)) t = segC r C' (q + 1) := by rw [e1, drop_cons, drop_id nl]
      split
      · exact drop_sortI (by rw [ed])
      · exact ed
    · by_cases j2 : j = q
      · subst j2
        rw [gone_q p]
        unfold entT
        rw [if_neg (show ¬ isR "left" = true by decide), stdC_at hj]
        unfold atC
        by_cases hy : (L.getD j z0).1 = "yard"
        · rw [if_pos hy, if_pos hy, if_pos hy, e2]
          refine sortI_congr ?_
          exact ((sortI_perm _).cons _).trans (List.perm_append_comm (l₁ := [t]))
        · rw [if_neg hy, if_neg hy, if_neg hy, e2]
      · rw [gone_j p j1 j2, stdC_at hj]
        unfold atC
        rw [← hC', seg_same hl (by omega) (by omega)]
theorem room_right (h : CutOk L m C) (g : CutOk L m G) : ∀ (k i : Nat), L.length - i = k → i < L.length → cu G i < cu C i → ∃ j, j < L.length ∧ cu G j < cu C j ∧ cu C (j + 1) - cu C j < (L.getD j z0).2
  | 0, i, e, hi, _ => by omega
  | k + 1, i, e, hi, hg => by
    by_cases hr : cu C (i + 1) - cu C i < (L.getD i z0).2
    · exact ⟨i, hi, hg, hr⟩
    · have h1 := g.room i hi
      have hlt : cu G (i + 1) < cu C (i + 1) := by omega
      by_cases hn : i + 1 < L.length
      · exact room_right h g k (i + 1) (by omega) hn hlt
      · have e2 : i + 1 = L.length := by omega
        rw [e2, h.top, g.top] at hlt
        omega
theorem train_right (h : CutOk L m C) (g : CutOk L m G) (hs : ∀ i, i < L.length → 1 ≤ (L.getD i z0).2) : ∀ (j : Nat), j < L.length → cu G j < cu C j → cu C (j + 1) - cu C j < (L.getD j z0).2 →
    ∃ a, a + 1 < L.length ∧ cu G (a + 1) < cu C (a + 1) ∧ cu C a < cu C (a + 1) ∧ cu C (a + 1 + 1) - cu C (a + 1) < (L.getD (a + 1) z0).2
  | 0, _, hg, _ => by
    rw [h.zero, g.zero] at hg
    omega
  | a + 1, hj, hg, hr => by
    have h1 := h.mono a (by omega)
    by_cases ht : cu C a < cu C (a + 1)
    · exact ⟨a, hj, hg, ht, hr⟩
    · have h2 := g.mono a (by omega)
      have h3 := hs a (by omega)
      exact train_right h g hs a (by omega) (by omega) (by omega)
theorem room_left (h : CutOk L m C) (g : CutOk L m G) : ∀ (i : Nat), i ≤ L.length → cu C i < cu G i → ∃ a, a + 1 ≤ L.length ∧ cu C (a + 1) < cu G (a + 1) ∧ cu C (a + 1) - cu C a < (L.getD a z0).2
  | 0, _, hg => by
    rw [h.zero, g.zero] at hg
    omega
  | a + 1, hi, hg => by
    by_cases hr : cu C (a + 1) - cu C a < (L.getD a z0).2
    · exact ⟨a, hi, hg, hr⟩
    · have h1 := g.room a (by omega)
      exact room_left h g a (by omega) (by omega)
theorem train_left (h : CutOk L m C) (g : CutOk L m G) (hs : ∀ i, i < L.length → 1 ≤ (L.getD i z0).2) : ∀ (k a : Nat), L.length - a = k → a + 1 ≤ L.length → cu C (a + 1) < cu G (a + 1) → cu C (a + 1) - cu C a < (L.getD a z0).2 →
    ∃ a, a + 1 < L.length ∧ cu C (a + 1) < cu G (a + 1) ∧ cu C (a + 1) < cu C (a + 1 + 1) ∧ cu C (a + 1) - cu C a < (L.getD a z0).2
  | 0, a, e, ha, _, _ => by omega
  | k + 1, a, e, ha, hg, hr => by
    by_cases hn : a + 1 < L.length
    · have h1 := h.mono (a + 1) hn
      by_cases ht : cu C (a + 1) < cu C (a + 1 + 1)
      · exact ⟨a, hn, hg, ht, hr⟩
      · have h2 := g.mono (a + 1) hn
        have h3 := hs (a + 1) hn
        exact train_left h g hs k (a + 1) (by omega) (by omega) (by omega) (by omega)
    · have e2 : a + 1 = L.length := by omega
      rw [e2, h.top, g.top] at hg
      omega
theorem goes (h : CutOk L m C) (g : CutOk L m G) (hs : ∀ i, i < L.length → 1 ≤ (L.getD i z0).2) (hne : C ≠ G) : ∃ a, a + 1 < L.length ∧
    ((cu G (a + 1) < cu C (a + 1) ∧ cu C a < cu C (a + 1) ∧ cu C (a + 1 + 1) - cu C (a + 1) < (L.getD (a + 1) z0).2) ∨ (cu C (a + 1) < cu G (a + 1) ∧ cu C (a + 1) < cu C (a + 1 + 1) ∧ cu C (a + 1) - cu C a < (L.getD a z0).2)) := by
  obtain ⟨i, hi, hd⟩ : ∃ i, i ≤ L.length ∧ cu C i ≠ cu G i := by
    refine Classical.byContradiction fun hno => hne ?_
    refine List.ext_getElem (by rw [h.len, g.len]) fun i h1 h2 => ?_
    have hi : i ≤ L.length := by rw [h.len] at h1; omega
    have e : cu C i = cu G i := Classical.byContradiction fun z => hno ⟨i, hi, z⟩
    have e1 : cu C i = C[i] := by show C.getD i 0 = _; rw [List.getD_eq_getElem?_getD, List.getElem?_eq_getElem h1]; rfl
    have e2 : cu G i = G[i] := by show G.getD i 0 = _; rw [List.getD_eq_getElem?_getD, List.getElem?_eq_getElem h2]; rfl
    rw [← e1, ← e2, e]
  rcases Int.lt_or_gt_of_ne hd with hd | hd
  · obtain ⟨a, a1, a2, a3⟩ := room_left h g i hi hd
    obtain ⟨b, b1, b2⟩ := train_left h g hs _ a rfl a1 a2 a3
    exact ⟨b, b1, .inr b2⟩
  · have hi2 : i < L.length := by
      refine Nat.lt_of_le_of_ne hi fun e => ?_
      rw [e, h.top, g.top] at hd
      omega
    obtain ⟨j, j1, j2, j3⟩ := room_right h g _ i rfl hi2 hd
    obtain ⟨a, a1, a2⟩ := train_right h g hs j j1 j2 j3
    exact ⟨a, a1, .inl a2⟩
end
end Kx
end
section
set_option maxHeartbeats 4000000
namespace Kx
open PySem PySem.Spec PyProof.Rows L2 Dl
section
variable {L : Lin} {m : Nat} {C G N r : List Int}
theorem tour_app {S S1 S2 : Std} {a b : Row} (A : Tour L S S1 a) (B : Tour L S1 S2 b) : Tour L S S2 (a ++ b) where
  run := by rw [runT_app L A.run]; exact B.run
  bk := by
    have e : backT (a ++ b) = backT b ++ backT a := by
      unfold backT
      rw [List.reverse_append, List.map_append]
    rw [e, runT_app L B.bk]
    exact A.bk
  sides := sides_app A.sides B.sides
  scn := B.scn
  perm := B.perm.trans A.perm
  small := fun p hp => (List.mem_append.mp hp).elim (A.small p) (B.small p)
theorem cap_cut (h : CutOk L m C) {i j : Nat} (hij : i ≤ j) (hj : j ≤ L.length) : cu C j - cu C i ≤ caps (L.take j) - caps (L.take i) := by
  induction j with
  | zero =>
    have : i = 0 := by omega
    subst this
    omega
  | succ j ih =>
    by_cases e : i = j + 1
    · subst e; omega
    · have h1 := ih (by omega) (by omega)
      have h2 := h.room j (by omega)
      rw [caps_take (by omega)]
      omega
theorem caps_all (L : Lin) : caps (L.take L.length) = caps L := by rw [List.take_length]
theorem caps_zero (L : Lin) : caps (L.take 0) = 0 := by rw [List.take_zero]; rfl
structure NearOk (L : Lin) (m : Nat) (C : List Int) (p : Nat) (f b : Int) (lo hi : Nat) (N : List Int) : Prop where
  len : N.length = L.length + 1
  at_ : cu N p = f
  at1 : cu N (p + 1) = b
  low : ∀ j, j < lo → cu N j = cu C j
  high : ∀ j, hi < j → j ≤ L.length → cu N j = cu C j
  ok : ∀ j, lo ≤ j → j < hi → cu N j ≤ cu N (j + 1) ∧ cu N (j + 1) - cu N j ≤ (L.getD j z0).2
  lp : lo ≤ p
  ph : p + 1 ≤ hi
  hl : hi ≤ L.length
  lb : 0 ≤ cu N lo ∧ cu N lo ≤ caps (L.take lo)
  hb : (m : Int) - (caps L - caps (L.take hi)) ≤ cu N hi ∧ cu N hi ≤ m
theorem near_start (h : CutOk L m C) {p : Nat} {f b : Int} (hp : p < L.length) (f0 : 0 ≤ f) (fb : f ≤ b) (bm : b ≤ m) (hr : b - f ≤ (L.getD p z0).2) (hc : f ≤ caps (L.take p)) (hd : (m : Int) - (caps L - caps (L.take (p + 1))) ≤ b) :
    NearOk L m C p f b p (p + 1) ((C.set p f).set (p + 1) b) := by
  have l1 : p < C.length := by rw [h.len]; omega
  have l2 : p + 1 < (C.set p f).length := by rw [List.length_set, h.len]; omega
  have e1 : cu ((C.set p f).set (p + 1) b) p = f := by rw [cu_set l2, if_neg (by omega), cu_set l1, if_pos rfl]
  have e2 : cu ((C.set p f).set (p + 1) b) (p + 1) = b := by rw [cu_set l2, if_pos rfl]
  refine ⟨by rw [List.length_set, List.length_set, h.len], e1, e2, fun j hj => ?_, fun j h1 h2 => ?_, fun j h1 h2 => ?_, Nat.le_refl _, Nat.le_refl _, hp, by rw [e1]; exact ⟨f0, hc⟩, by rw [e2]; exact ⟨hd, bm⟩⟩
  · rw [cu_set l2, if_neg (by omega), cu_set l1, if_neg (by omega)]
  · rw [cu_set l2, if_neg (by omega), cu_set l1, if_neg (by omega)]
  · have : j = p := by omega
    subst this
    rw [e1, e2]
    exact ⟨fb, hr⟩
theorem near_left (h : CutOk L m C) (hs : ∀ i, i < L.length → 1 ≤ (L.getD i z0).2) {p : Nat} {f b : Int} {lo hi : Nat} (n : NearOk L m C p f b (lo + 1) hi N) :
    NearOk L m C p f b lo hi (N.set lo (min (max (cu N lo) (cu N (lo + 1) - (L.getD lo z0).2)) (cu N (lo + 1)))) := by
  have l1 : lo < N.length := by rw [n.len]; have := n.lp; have := n.ph; have := n.hl; omega
  have hlo : lo < L.length := by have := n.lp; have := n.ph; have := n.hl; omega
  have hc := n.low lo (by omega)
  have c0 := h.nn (i := lo) (by omega)
  have c1 := cap_cut h (Nat.zero_le lo) (by omega)
  rw [h.zero, caps_zero] at c1
  have c2 := n.lb
  rw [caps_take hlo] at c2
  have s1 := hs lo hlo
  have lp := n.lp
  have ph := n.ph
  generalize hx : min (max (cu N lo) (cu N (lo + 1) - (L.getD lo z0).2)) (cu N (lo + 1)) = x
  have x1 : x ≤ cu N (lo + 1) := by omega
  have x2 : cu N (lo + 1) - x ≤ (L.getD lo z0).2 := by omega
  have x3 : 0 ≤ x := by omega
  have x4 : x ≤ caps (L.take lo) := by omega
  refine ⟨by rw [List.length_set, n.len], by rw [cu_set l1, if_neg (by omega)]; exact n.at_, by rw [cu_set l1, if_neg (by omega)]; exact n.at1, fun j hj => by rw [cu_set l1, if_neg (by omega)]; exact n.low j (by omega),
    fun j h1 h2 => by rw [cu_set l1, if_neg (by omega)]; exact n.high j h1 h2, fun j h1 h2 => ?_, by omega, n.ph, n.hl, by rw [cu_set l1, if_pos rfl]; exact ⟨x3, x4⟩, by rw [cu_set l1, if_neg (by omega)]; exact n.hb⟩
  rw [cu_set l1, cu_set l1]
  by_cases e : j = lo
  · subst e
    rw [if_pos rfl, if_neg (by omega)]
    exact ⟨x1, x2⟩
  · rw [if_neg e, if_neg (by omega)]
    exact n.ok j (by omega) h2
theorem near_right (h : CutOk L m C) (hs : ∀ i, i < L.length → 1 ≤ (L.getD i z0).2) {p : Nat} {f b : Int} {lo hi : Nat} (hh : hi < L.length) (n : NearOk L m C p f b lo hi N) :
    NearOk L m C p f b lo (hi + 1) (N.set (hi + 1) (max (min (cu N (hi + 1)) (cu N hi + (L.getD hi z0).2)) (cu N hi))) := by
  have l1 : hi + 1 < N.length := by rw [n.len]; omega
  have hc := n.high (hi + 1) (by omega) (by omega)
  have c0 := h.lm (i := hi + 1) (by omega)
  have c1 := cap_cut h (i := hi + 1) (j := L.length) (by omega) (Nat.le_refl _)
  rw [h.top, caps_all] at c1
  have c2 := n.hb
  have c3 := caps_take hh
  have s1 := hs hi hh
  have lp := n.lp
  have ph := n.ph
  generalize hx : max (min (cu N (hi + 1)) (cu N hi + (L.getD hi z0).2)) (cu N hi) = x
  have x1 : cu N hi ≤ x := by omega
  have x2 : x - cu N hi ≤ (L.getD hi z0).2 := by omega
  have x3 : x ≤ m := by omega
  have x4 : (m : Int) - (caps L - caps (L.take (hi + 1))) ≤ x := by omega
  refine ⟨by rw [List.length_set, n.len], by rw [cu_set l1, if_neg (by omega)]; exact n.at_, by rw [cu_set l1, if_neg (by omega)]; exact n.at1, fun j hj => by rw [cu_set l1, if_neg (by omega)]; exact n.low j hj,
    fun j h1 h2 => by rw [cu_set l1, if_neg (by omega)]; exact n.high j (by omega) h2, fun j h1 h2 => ?_, n.lp, by omega, by omega, by rw [cu_set l1, if_neg (by omega)]; exact n.lb, by rw [cu_set l1, if_pos rfl]; exact ⟨x4, x3⟩⟩
  rw [cu_set l1, cu_set l1]
  by_cases e : j = hi
  · subst e
    rw [if_neg (by omega), if_pos rfl]
    exact ⟨x1, x2⟩
  · rw [if_neg (by omega), if_neg (by omega)]
    exact n.ok j h1 (by omega)
theorem near_end {p : Nat} {f b : Int} (n : NearOk L m C p f b 0 L.length N) : CutOk L m N where
  len := n.len
  zero := by
    have h := n.lb
    rw [caps_zero] at h
    omega
  top := by
    have h := n.hb
    rw [caps_all] at h
    omega
  mono := fun i hi => (n.ok i (Nat.zero_le _) hi).1
  room := fun i hi => (n.ok i (Nat.zero_le _) hi).2
def flatP (P : Nat → List Int) (k : Nat) : List Int := ((List.range k).map P).flatten
theorem flatP_at (P : Nat → List Int) (k : Nat) : flatP P (k + 1) = flatP P k ++ P k := by
  unfold flatP
  rw [List.range_succ, List.map_append, List.flatten_append]
  simp
theorem flatP_len {P : Nat → List Int} (h0 : cu C 0 = 0) : ∀ k, (∀ i, i < k → ((P i).length : Int) = cu C (i + 1) - cu C i) → ((flatP P k).length : Int) = cu C k
  | 0, _ => h0.symm
  | k + 1, h => by
    have h1 := flatP_len h0 k fun i hi => h i (by omega)
    have h2 := h k (by omega)
    rw [flatP_at, List.length_append]
    omega
theorem flatP_seg {P : Nat → List Int} (h : CutOk L m C) (hp : ∀ i, i < L.length → ((P i).length : Int) = cu C (i + 1) - cu C i) {i : Nat} (hi : i < L.length) : segC (flatP P L.length) C i = P i := by
  have go : ∀ k, i < k → k ≤ L.length → slN (flatP P k) (cu C i).toNat (cu C (i + 1)).toNat = P i := by
    intro k
    induction k with
    | zero => intro z _; omega
    | succ k ih =>
      intro h1 h2
      have lk := flatP_len (P := P) h.zero k fun i hi => hp i (by omega)
      have n0 := h.nn (i := i) (by omega)
      have l1 := hp i hi
      rw [flatP_at]
      by_cases e : i = k
      · subst e
        rw [slN_right (by omega)]
        unfold slN
        rw [show (cu C i).toNat - (flatP P i).length = 0 by omega, List.drop_zero, List.take_of_length_le (by omega)]
      · have h3 := h.le (i := i + 1) (j := k) (by omega) (by omega)
        rw [slN_left (by omega)]
        exact ih (by omega) (by omega)
  unfold segC
  exact go L.length hi (Nat.le_refl _)
theorem flat_seg (h : CutOk L r.length C) : ∀ k, k ≤ L.length → flatP (segC r C) k = r.take (cu C k).toNat
  | 0, _ => by rw [h.zero]; rfl
  | k + 1, hk => by
    rw [flatP_at, flat_seg h k (by omega)]
    have h1 := h.mono k (by omega)
    have h2 := h.nn (i := k) (by omega)
    unfold segC
    rw [take_slN r (s := (cu C k).toNat) (n := (cu C (k + 1)).toNat) (by omega)]
theorem flat_all (h : CutOk L r.length C) : flatP (segC r C) L.length = r := by
  rw [flat_seg h L.length (Nat.le_refl _), h.top, Int.toNat_natCast, List.take_length]
theorem flatP_perm {P P' : Nat → List Int} : ∀ k, (∀ i, i < k → (P i).Perm (P' i)) → (flatP P k).Perm (flatP P' k)
  | 0, _ => .refl _
  | k + 1, h => by
    rw [flatP_at, flatP_at]
    exact (flatP_perm k fun i hi => h i (by omega)).append (h k (by omega))
theorem take_stdC (k : Nat) (hk : k ≤ L.length) : ((stdC L r C).take k).flatten = flatP (atC L r C) k := by
  unfold stdC flatP
  rw [← List.map_take, List.take_range, Nat.min_eq_left hk]
theorem stdC_grps (h : CutOk L r.length C) (hn : r.Nodup) (h0 : ∀ x ∈ r, 0 ≤ x ∧ x < 2 ^ 40) : grpsT L (stdC L r C).flatten = grpsT L r := by
  have hS := scn_C h hn h0
  have hl := (perm_C h).length_eq
  refine (grps_cut hl).mpr fun c hc hj => ?_
  rw [hl] at hc hj
  -- a place in which the cut falls
  have pl : ∀ k, k ≤ L.length → (c : Int) ≤ cu C k → ((stdC L r C).flatten.take c).Perm (r.take c) := by
    intro k
    induction k with
    | zero =>
      intro _ hck
      rw [h.zero] at hck
      have : c = 0 := by omega
      subst this
      rw [List.take_zero, List.take_zero]
    | succ k ih =>
      intro hk hck
      by_cases hle : (c : Int) ≤ cu C k
      · exact ih (by omega) hle
      · have lk : ((flatP (atC L r C) k).length : Int) = cu C k := flatP_len h.zero k fun i hi => atC_len h (by omega)
        have lk1 : ((flatP (atC L r C) (k + 1)).length : Int) = cu C (k + 1) := flatP_len h.zero (k + 1) fun i hi => atC_len h (by omega)
        have n0 := h.nn (i := k) (by omega)
        have hks : k < (stdC L r C).length := by rw [stdC_len]; omega
        have e1 : (stdC L r C).flatten = flatP (atC L r C) k ++ (atC L r C k ++ ((stdC L r C).drop (k + 1)).flatten) := by
          rw [std_split hks, take_stdC k (by omega), stdC_at (by omega)]
        have p1 : (flatP (atC L r C) k).Perm (r.take (cu C k).toNat) := by
          rw [← flat_seg h k (by omega)]
          exact flatP_perm k fun i hi => atC_perm i
        have lat := atC_len h (i := k) (by omega)
        have e2 : (stdC L r C).flatten.take c = flatP (atC L r C) k ++ (atC L r C k).take (c - (flatP (atC L r C) k).length) := by
          rw [e1, List.take_append, List.take_of_length_le (by omega), List.take_append, show c - (flatP (atC L r C) k).length - (atC L r C k).length = 0 by omega, List.take_zero, List.append_nil]
        have e3 : r.take c = r.take (cu C k).toNat ++ (segC r C k).take (c - (cu C k).toNat) := by
          rw [take_slN r (s := (cu C k).toNat) (n := c) (by omega)]
          congr 1
          unfold segC slN
          rw [List.take_take]
          congr 1
          omega
        rw [e2, e3, show (flatP (atC L r C) k).length = (cu C k).toNat by omega]
        refine p1.append ?_
        by_cases hall : (c : Int) = cu C (k + 1)
        · rw [List.take_of_length_le (by omega), List.take_of_length_le (by have := segC_len h (i := k) (by omega); omega)]
          exact atC_perm k
        · unfold atC
          split
          · rename_i hy
            exfalso
            have hj2 := win_join hS hks hy (j := c - 1) (by rw [take_stdC k (by omega)]; omega) (by rw [take_stdC k (by omega), stdC_at (by omega)]; omega)
            rw [hl] at hj2
            rcases hj with z | z
            · omega
            · rw [z] at hj2
              cases hj2
          · exact .refl _
  exact pl L.length (Nat.le_refl _) (by rw [h.top]; omega)
end
end Kx
end
section
set_option maxHeartbeats 4000000
namespace Kx
open PySem PySem.Spec PyProof.Rows L2 Dl
section
variable {L : Lin} {m : Nat} {C G N r : List Int}
def less (x : Int) (l : List Int) : Nat := (l.filter fun y => decide (y < x)).length
def invs : List Int → Nat
  | [] => 0
  | x :: l => less x l + invs l
def crossN (A B : List Int) : Nat := (A.map fun x => less x B).sum
theorem less_app (x : Int) (A B : List Int) : less x (A ++ B) = less x A + less x B := by
  unfold less
  rw [List.filter_append, List.length_append]
theorem less_perm (x : Int) {A B : List Int} (h : A.Perm B) : less x A = less x B := (h.filter _).length_eq
theorem invs_app : ∀ A B : List Int, invs (A ++ B) = invs A + invs B + crossN A B
  | [], B => by
    show invs B = 0 + invs B + 0
    omega
  | x :: A, B => by
    show less x (A ++ B) + invs (A ++ B) = less x A + invs A + invs B + (less x B + crossN A B)
    rw [less_app, invs_app A B]
    omega
theorem cross_perm {A A' B B' : List Int} (h1 : A.Perm A') (h2 : B.Perm B') : crossN A B = crossN A' B' := by
  unfold crossN
  have e : (fun x => less x B) = fun x => less x B' := funext fun x => less_perm x h2
  rw [e]
  exact (h1.map _).sum_nat
theorem invs_sorted : ∀ {l : List Int}, l.Pairwise (· ≤ ·) → invs l = 0
  | [], _ => rfl
  | x :: l, h => by
    obtain ⟨h1, h2⟩ := List.pairwise_cons.mp h
    have e : less x l = 0 := by
      unfold less
      rw [List.length_eq_zero_iff, List.filter_eq_nil_iff]
      intro y hy
      have := h1 y hy
      simp
      omega
    show less x l + invs l = 0
    rw [e, invs_sorted h2]
theorem invs_pos : ∀ {l : List Int} {j : Nat}, j + 1 < l.length → l.getD (j + 1) 0 < l.getD j 0 → 0 < invs l
  | [], _, h, _ => by cases h
  | x :: l, 0, h, hd => by
    have hl : 0 < l.length := by simpa using h
    have e : l.getD 0 0 ∈ l := getD_mem2 0 hl
    have hd : l.getD 0 0 < x := by simpa using hd
    have : 0 < less x l := by
      unfold less
      exact List.length_pos_iff.mpr (List.ne_nil_of_mem (List.mem_filter.mpr ⟨e, decide_eq_true hd⟩))
    show 0 < less x l + invs l
    omega
  | x :: l, j + 1, h, hd => by
    have := invs_pos (l := l) (j := j) (by simpa using h) (by simpa using hd)
    show 0 < less x l + invs l
    omega
theorem invs_le : ∀ l : List Int, invs l ≤ l.length * l.length
  | [] => Nat.zero_le _
  | x :: l => by
    have h1 := invs_le l
    have h2 : less x l ≤ l.length := List.length_filter_le _ _
    show less x l + invs l ≤ (l.length + 1) * (l.length + 1)
    rw [Nat.add_mul, Nat.mul_add]
    omega
theorem flatP_map (f : Int → Int) (P : Nat → List Int) (k : Nat) : (flatP P k).map f = flatP (fun i => (P i).map f) k := by
  unfold flatP
  rw [List.map_flatten, List.map_map]
  rfl
theorem invs_parts {P P' : Nat → List Int} : ∀ k, (∀ i, i < k → (P' i).Perm (P i) ∧ invs (P' i) ≤ invs (P i)) → invs (flatP P' k) ≤ invs (flatP P k) ∧ ((∃ i, i < k ∧ invs (P' i) < invs (P i)) → invs (flatP P' k) < invs (flatP P k))
  | 0, _ => ⟨Nat.le_refl _, fun ⟨i, hi, _⟩ => by omega⟩
  | k + 1, h => by
    obtain ⟨h1, h2⟩ := invs_parts (P := P) (P' := P') k fun i hi => h i (by omega)
    obtain ⟨p1, p2⟩ := h k (by omega)
    have pp : (flatP P' k).Perm (flatP P k) := flatP_perm k fun i hi => (h i (by omega)).1
    rw [flatP_at, flatP_at, invs_app, invs_app, cross_perm pp p1]
    refine ⟨by omega, fun ⟨i, hi, hs⟩ => ?_⟩
    by_cases e : i = k
    · subst e; omega
    · have := h2 ⟨i, by omega, hs⟩
      omega
def arrP (L : Lin) (r C : List Int) (key : Int → Int) (i : Nat) : List Int := if (L.getD i z0).1 = "yard" then byKey key (segC r C i) else segC r C i
def arrT (L : Lin) (r C : List Int) (key : Int → Int) : List Int := flatP (arrP L r C key) L.length
theorem byKey_perm (key : Int → Int) (l : List Int) : (byKey key l).Perm l := List.mergeSort_perm _ _
theorem byKey_sorted (key : Int → Int) (l : List Int) : ((byKey key l).map key).Pairwise (· ≤ ·) := by
  have h := List.pairwise_mergeSort (le := fun a b : Int => decide (key a ≤ key b)) (fun a b c h1 h2 => by
    have h1 := of_decide_eq_true h1
    have h2 := of_decide_eq_true h2
    exact decide_eq_true (Int.le_trans h1 h2)) (fun a b => by
    rcases Int.le_total (key a) (key b) with z | z
    · rw [decide_eq_true z]; rfl
    · rw [decide_eq_true z, Bool.or_true]) l
  exact List.pairwise_map.mpr (h.imp fun {a b} z => of_decide_eq_true z)
theorem arrP_perm (key : Int → Int) (i : Nat) : (arrP L r C key i).Perm (segC r C i) := by
  unfold arrP
  split
  · exact byKey_perm key _
  · exact .refl _
theorem arrP_len (h : CutOk L r.length C) (key : Int → Int) {i : Nat} (hi : i < L.length) : ((arrP L r C key i).length : Int) = cu C (i + 1) - cu C i := by
  rw [(arrP_perm key i).length_eq]
  exact segC_len h hi
theorem arr_perm (h : CutOk L r.length C) (key : Int → Int) : (arrT L r C key).Perm r := by
  have e := flat_all h
  have p : (arrT L r C key).Perm (flatP (segC r C) L.length) := flatP_perm L.length fun i _ => arrP_perm key i
  rw [e] at p
  exact p
theorem arr_len (h : CutOk L r.length C) (key : Int → Int) : (arrT L r C key).length = r.length := (arr_perm h key).length_eq
theorem arr_seg (h : CutOk L r.length C) (key : Int → Int) {i : Nat} (hi : i < L.length) : segC (arrT L r C key) C i = arrP L r C key i := flatP_seg h (fun i hi => arrP_len h key hi) hi
theorem arr_std (h : CutOk L r.length C) (key : Int → Int) : stdC L (arrT L r C key) C = stdC L r C := by
  unfold stdC
  refine List.map_congr_left fun i hi => ?_
  have hi := List.mem_range.mp hi
  unfold atC
  rw [arr_seg h key hi]
  split
  · exact sortI_congr (arrP_perm key i)
  · unfold arrP
    rename_i hy
    rw [if_neg hy]
theorem arr_invs (h : CutOk L r.length C) (key : Int → Int) : invs ((arrT L r C key).map key) ≤ invs (r.map key) ∧
    (∀ p j, p < L.length → (L.getD p z0).1 = "yard" → cu C p ≤ (j : Nat) → (j : Int) + 2 ≤ cu C (p + 1) → key (r.getD (j + 1) 0) < key (r.getD j 0) → invs ((arrT L r C key).map key) < invs (r.map key)) := by
  have e1 : (arrT L r C key).map key = flatP (fun i => (arrP L r C key i).map key) L.length := flatP_map key _ _
  have e2 : r.map key = flatP (fun i => (segC r C i).map key) L.length := by
    rw [← flatP_map, flat_all h]
  have pt : ∀ i, i < L.length → ((arrP L r C key i).map key).Perm ((segC r C i).map key) ∧ invs ((arrP L r C key i).map key) ≤ invs ((segC r C i).map key) := fun i hi => by
    refine ⟨(arrP_perm key i).map key, ?_⟩
    unfold arrP
    split
    · rw [invs_sorted (byKey_sorted key _)]
      exact Nat.zero_le _
    · exact Nat.le_refl _
  obtain ⟨q1, q2⟩ := invs_parts (P := fun i => (segC r C i).map key) (P' := fun i => (arrP L r C key i).map key) L.length pt
  rw [e1, e2]
  refine ⟨q1, fun p j hp hy h1 h2 hd => q2 ⟨p, hp, ?_⟩⟩
  have e3 : arrP L r C key p = byKey key (segC r C p) := by
    unfold arrP
    rw [if_pos hy]
  show invs ((arrP L r C key p).map key) < invs ((segC r C p).map key)
  rw [e3, invs_sorted (byKey_sorted key _)]
  have n0 := h.nn (i := p) (by omega)
  have n1 := h.lm (i := p + 1) (by omega)
  have sl := segC_len h hp
  obtain ⟨b, hb⟩ : ∃ b : Nat, cu C p = (b : Int) := ⟨(cu C p).toNat, by omega⟩
  have get : ∀ k, k < (segC r C p).length → ((segC r C p).map key).getD k 0 = key (r.getD (b + k) 0) := fun k hk => by
    rw [List.getD_eq_getElem?_getD, List.getElem?_map, List.getElem?_eq_getElem hk]
    have e : (segC r C p)[k]? = r[b + k]? := by
      unfold segC slN
      rw [hb, Int.toNat_natCast, List.getElem?_take, if_pos (by omega), List.getElem?_drop]
    rw [List.getElem?_eq_getElem hk] at e
    rw [List.getD_eq_getElem?_getD, ← e]
    rfl
  refine invs_pos (j := j - b) (by rw [List.length_map]; omega) ?_
  rw [get _ (by omega), get _ (by omega), show b + (j - b) = j by omega, show b + (j - b + 1) = j + 1 by omega]
  exact hd
end
end Kx
end
section
set_option maxHeartbeats 4000000
namespace Kx
open PySem PySem.Spec PyProof.Rows L2 Dl
section
variable {L : Lin} {m : Nat} {C G N r o : List Int}
def rkN (o : List Int) (t : Int) : Nat := o.findIdx fun x => decide (x = t)
def rk (o : List Int) (t : Int) : Int := ((rkN o t : Nat) : Int)
theorem rk_at (hn : o.Nodup) {i : Nat} {t : Int} (h : o[i]? = some t) : rkN o t = i := by
  obtain ⟨hi, e⟩ := List.getElem?_eq_some_iff.mp h
  have hm : t ∈ o := List.mem_of_getElem? h
  have hlt : rkN o t < o.length := List.findIdx_lt_length.mpr ⟨t, hm, by simp⟩
  have hp := List.findIdx_getElem (xs := o) (p := fun x => decide (x = t)) (w := hlt)
  have hp := of_decide_eq_true hp
  exact nodup_at hn (List.getElem?_eq_some_iff.mpr ⟨hlt, hp⟩) h
theorem rk_get {t : Int} (h : t ∈ o) : rkN o t < o.length ∧ o[rkN o t]? = some t := by
  have hlt : rkN o t < o.length := List.findIdx_lt_length.mpr ⟨t, h, by simp⟩
  have hp := List.findIdx_getElem (xs := o) (p := fun x => decide (x = t)) (w := hlt)
  exact ⟨hlt, List.getElem?_eq_some_iff.mpr ⟨hlt, of_decide_eq_true hp⟩⟩
theorem getD_of {l : List Int} {i : Nat} (h : i < l.length) : l[i]? = some (l.getD i 0) := by
  rw [List.getD_eq_getElem?_getD, List.getElem?_eq_getElem h]
  rfl
/-- two neighbours in the wrong order lie at a joint -/
theorem descent_joint (hp : r.Perm o) (hn : o.Nodup) (hg : grpsT L r = grpsT L o) {j : Nat} (hj : j + 1 < r.length) (hd : rk o (r.getD (j + 1) 0) < rk o (r.getD j 0)) : jnT L r.length j = true := by
  have hl := hp.length_eq
  refine Classical.byContradiction fun hno => ?_
  have hno : jnT L r.length j = false := by
    cases e : jnT L r.length j with
    | true => exact absurd e hno
    | false => rfl
  have pc := (grps_cut hl).mp hg (j + 1) (by omega) (.inr (by rw [Nat.add_sub_cancel]; exact hno))
  have g0 := getD_of (l := r) (i := j) (by omega)
  have g1 := getD_of (l := r) (i := j + 1) hj
  generalize r.getD j 0 = x at g0 hd
  generalize r.getD (j + 1) 0 = y at g1 hd
  have hx : x ∈ r.take (j + 1) := List.mem_of_getElem? (i := j) (by rw [List.getElem?_take, if_pos (by omega)]; exact g0)
  have hx := pc.mem_iff.mp hx
  obtain ⟨i, hi⟩ := List.getElem?_of_mem hx
  rw [List.getElem?_take] at hi
  split at hi
  · rename_i hij
    have e1 := rk_at hn hi
    have hy : y ∈ o := hp.mem_iff.mp (List.mem_of_getElem? g1)
    obtain ⟨y1, y2⟩ := rk_get hy
    have hlt : rkN o y < j + 1 := by
      unfold rk at hd
      omega
    have hy2 : y ∈ o.take (j + 1) := List.mem_of_getElem? (i := rkN o y) (by rw [List.getElem?_take, if_pos hlt]; exact y2)
    have hy3 := pc.mem_iff.mpr hy2
    obtain ⟨k, hk⟩ := List.getElem?_of_mem hy3
    rw [List.getElem?_take] at hk
    split at hk
    · have := nodup_at (hp.nodup_iff.mpr hn) hk g1
      omega
    · cases hk
  · cases hi
theorem adj_sorted {l : List Int} (h : ∀ j, j + 1 < l.length → l.getD j 0 ≤ l.getD (j + 1) 0) : l.Pairwise (· ≤ ·) := by
  induction l with
  | nil => exact .nil
  | cons x l ih =>
    have hl := ih fun j hj => by
      have := h (j + 1) (by simpa using hj)
      simpa using this
    refine List.pairwise_cons.mpr ⟨fun y hy => ?_, hl⟩
    cases l with
    | nil => cases hy
    | cons z l =>
      have h0 : x ≤ z := by simpa using h 0 (by simp)
      rcases List.mem_cons.mp hy with rfl | hy
      · exact h0
      · exact Int.le_trans h0 ((List.pairwise_cons.mp hl).1 y hy)
theorem no_descent (hp : r.Perm o) (hn : o.Nodup) (h : ∀ j, j + 1 < r.length → rk o (r.getD j 0) ≤ rk o (r.getD (j + 1) 0)) : r = o := by
  have hl := hp.length_eq
  have mp : ∀ {l : List Int} {j : Nat}, j < l.length → (l.map (rk o)).getD j 0 = rk o (l.getD j 0) := fun {l j} hj => by
    rw [List.getD_eq_getElem?_getD, List.getElem?_map, getD_of hj]
    rfl
  have s1 : (r.map (rk o)).Pairwise (· ≤ ·) := adj_sorted fun j hj => by
    rw [List.length_map] at hj
    rw [mp (by omega), mp hj]
    exact h j hj
  have s2 : (o.map (rk o)).Pairwise (· ≤ ·) := adj_sorted fun j hj => by
    rw [List.length_map] at hj
    rw [mp (by omega), mp hj]
    unfold rk
    rw [rk_at hn (getD_of (by omega)), rk_at hn (getD_of hj)]
    omega
  have e := sorted_uniq (hp.map (rk o)) s1 s2
  refine List.ext_getElem hl fun i h1 h2 => ?_
  have ei : (r.map (rk o)).getD i 0 = (o.map (rk o)).getD i 0 := by rw [e]
  rw [mp h1, mp h2] at ei
  have g1 := getD_of h1
  have g2 := getD_of h2
  have m1 : r.getD i 0 ∈ o := hp.mem_iff.mp (List.mem_of_getElem? g1)
  obtain ⟨k1, k2⟩ := rk_get m1
  have e2 : rkN o (r.getD i 0) = i := by
    have z := rk_at hn g2
    unfold rk at ei
    omega
  rw [e2, g2] at k2
  rw [List.getElem?_eq_getElem h1] at g1
  rw [List.getElem?_eq_getElem h2] at g2
  have k3 := Option.some.inj k2
  rw [Option.some.inj g1, Option.some.inj g2]
  exact k3.symm
structure MeetsC (L : Lin) (m : Nat) (j : Nat) (N : List Int) : Prop where
  ok : CutOk L m N
  at_ : ∃ p, p < L.length ∧ (L.getD p z0).1 = "yard" ∧ cu N p ≤ (j : Nat) ∧ (j : Int) + 2 ≤ cu N (p + 1)
theorem meet_bounds (h : CutOk L m C) (hK : kindsOk L) {p j : Nat} (hp : p < L.length) (hs : 2 ≤ (L.getD p z0).2) (h1 : lowT L m p ≤ (j : Int)) (h2 : (j : Int) + 2 ≤ highT L p) (hj : j + 1 < m) {f b : Int} (hf : f = max (lowT L m p) ((j : Int) + 2 - (L.getD p z0).2)) (hb : b = min (f + (L.getD p z0).2) m) :
    (0 ≤ f ∧ f ≤ b ∧ b ≤ m ∧ b - f ≤ (L.getD p z0).2 ∧ f ≤ caps (L.take p) ∧ (m : Int) - (caps L - caps (L.take (p + 1))) ≤ b) ∧ f ≤ j ∧ (j : Int) + 2 ≤ b := by
  have c0 := cap_cut h (Nat.zero_le L.length) (Nat.le_refl _)
  rw [h.zero, h.top, caps_all, caps_zero] at c0
  have c1 := caps_mono hK (Nat.zero_le p)
  rw [caps_zero] at c1
  have c2 := caps_take_le hK (p + 1)
  have c3 := caps_take hp
  have e1 : highT L p = caps (L.take (p + 1)) := rfl
  rw [e1] at h2
  unfold lowT at h1 hf
  split at h1
  · rename_i q
    rw [if_pos q] at hf
    omega
  · rename_i q
    rw [if_neg q] at hf
    omega
end
end Kx
end
section
set_option maxHeartbeats 4000000
namespace Kx
open PySem PySem.Spec PyProof.Rows L2 Dl
section
variable {L : Lin} {m : Nat} {C G N r o : List Int}
theorem dist_le (h : CutOk L m C) (g : CutOk L m G) (hl : L.length ≤ 40) (hm : m ≤ 40) : dist C G ≤ 1640 := by
  have go : ∀ A B : List Int, A.length = B.length → (∀ i, i < A.length → 0 ≤ cu A i ∧ cu A i ≤ m) → (∀ i, i < A.length → 0 ≤ cu B i ∧ cu B i ≤ m) → dist A B ≤ m * A.length := by
    intro A
    induction A with
    | nil => intro B _ _ _; exact Nat.zero_le _
    | cons a A ih =>
      intro B hl ha hb
      cases B with
      | nil => cases hl
      | cons b B =>
        have h1 := ih B (by simpa using hl) (fun i hi => ha (i + 1) (by simpa using hi)) (fun i hi => hb (i + 1) (by simpa using hi))
        have a0 : 0 ≤ a ∧ a ≤ m := ha 0 (by simp)
        have b0 : 0 ≤ b ∧ b ≤ m := hb 0 (by simp)
        show (a - b).natAbs + dist A B ≤ m * (A.length + 1)
        rw [Nat.mul_add]
        omega
  have h1 := go C G (by rw [h.len, g.len]) (fun i hi => by rw [h.len] at hi; exact ⟨h.nn (by omega), h.lm (by omega)⟩) (fun i hi => by rw [h.len] at hi; exact ⟨g.nn (by omega), g.lm (by omega)⟩)
  rw [h.len] at h1
  exact Nat.le_trans h1 (Nat.le_trans (Nat.mul_le_mul hm (Nat.add_le_add_right hl 1)) (by decide))
end
end Kx
end
section
set_option maxHeartbeats 4000000
namespace Kx
open PySem PySem.Spec PyProof.Rows L2 Dl
section
variable {L : Lin} {S1 S2 : Std} {o C r : List Int} {path : Row}
structure RowSt (L : Lin) (S1 : Std) (o C r : List Int) (path : Row) : Prop where
  ok : CutOk L r.length C
  perm : r.Perm o
  tour : Tour L S1 (stdC L r C) path
  grp : grpsT L r = grpsT L o
  lng : path.length + 1640 * invs (r.map (rk o)) ≤ 2624000
theorem arr_grps (h : CutOk L r.length C) (hn : r.Nodup) (h0 : ∀ x ∈ r, 0 ≤ x ∧ x < 2 ^ 40) (key : Int → Int) : grpsT L (arrT L r C key) = grpsT L r := by
  have hp := arr_perm h key
  have hok : CutOk L (arrT L r C key).length C := by rw [arr_len h key]; exact h
  rw [← stdC_grps hok (hp.nodup_iff.mpr hn) (fun x hx => h0 x (hp.mem_iff.mp hx)), arr_std h key]
  exact stdC_grps h hn h0
theorem row_start (hS : Scn L S1) (hn : o.Nodup) (h0 : ∀ x ∈ o, 0 ≤ x ∧ x < 2 ^ 40) (ho : o.length ≤ 40) (hp : S1.flatten.Perm o) (hg : grpsT L S1.flatten = grpsT L o) :
    RowSt L S1 o (cutsT S1) (arrT L S1.flatten (cutsT S1) (rk o)) [] := by
  have h := cuts_ok hS
  have hn1 : S1.flatten.Nodup := hp.nodup_iff.mpr hn
  have h01 : ∀ x ∈ S1.flatten, 0 ≤ x ∧ x < 2 ^ 40 := fun x hx => h0 x (hp.mem_iff.mp hx)
  have ha := arr_perm h (rk o)
  refine ⟨by rw [arr_len h]; exact h, ha.trans hp, ?_, (arr_grps h hn1 h01 _).trans hg, ?_⟩
  · rw [arr_std h, cuts_std hS]
    exact tour_nil hS
  · have e := invs_le ((arrT L S1.flatten (cutsT S1) (rk o)).map (rk o))
    have l : (arrT L S1.flatten (cutsT S1) (rk o)).length ≤ 40 := by rw [arr_len h, hp.length_eq]; exact ho
    rw [List.length_map] at e
    have := Nat.mul_le_mul l l
    simp only [List.length_nil]
    omega
theorem row_step (hR : RowSt L S1 o C r path) (hn : o.Nodup) (h0 : ∀ x ∈ o, 0 ≤ x ∧ x < 2 ^ 40) {j : Nat} {N : List Int} (hj : j + 1 < r.length) (hd : rk o (r.getD (j + 1) 0) < rk o (r.getD j 0)) (hN : MeetsC L r.length j N)
    {p2 : Row} (t2 : Tour L (stdC L r C) (stdC L r N) p2) (l2 : p2.length ≤ 1640) :
    RowSt L S1 o N (arrT L r N (rk o)) (path ++ p2) ∧ invs ((arrT L r N (rk o)).map (rk o)) < invs (r.map (rk o)) := by
  obtain ⟨p, q1, q2, q3, q4⟩ := hN.at_
  have hlt := (arr_invs hN.ok (rk o)).2 p j q1 q2 q3 q4 hd
  have ha := arr_perm hN.ok (rk o)
  refine ⟨⟨by rw [arr_len hN.ok]; exact hN.ok, ha.trans hR.perm, ?_, (arr_grps hN.ok (hR.perm.nodup_iff.mpr hn) (fun x hx => h0 x (hR.perm.mem_iff.mp hx)) _).trans hR.grp, ?_⟩, hlt⟩
  · rw [arr_std hN.ok]
    exact tour_app hR.tour t2
  · have := hR.lng
    rw [List.length_append]
    omega
theorem row_end (hR : RowSt L S1 S2.flatten C r path) (hS2 : Scn L S2) (hn : S2.flatten.Nodup) (h : ∀ j, j + 1 < r.length → rk S2.flatten (r.getD j 0) ≤ rk S2.flatten (r.getD (j + 1) 0))
    {p2 : Row} (t2 : Tour L (stdC L r C) (stdC L r (cutsT S2)) p2) (l2 : p2.length ≤ 1640) : Tour L S1 S2 (path ++ p2) ∧ (path ++ p2).length ≤ 4000000 := by
  have e := no_descent hR.perm hn h
  have hl := hR.lng
  have t3 := tour_app hR.tour t2
  rw [e, cuts_std hS2] at t3
  refine ⟨t3, ?_⟩
  rw [List.length_append]
  omega
theorem big_size {n : Nat} (h : n ≤ 4000000) : n ≤ sizeLine := Nat.le_trans h (by decide)
end
end Kx
end
section
set_option maxHeartbeats 4000000
namespace Kx
open PySem PySem.Spec PyProof.Rows L2 Dl
section
variable {L : Lin} {S S1 S' : Std} {r : Row} {i : Nat}
theorem tour_next (T : Tour L S S1 (r.take i)) (hi : i < r.length) (hs : sidesOk r) (hr : runT L S1 (r.drop i) = .ok S') :
    ∃ t s, r.getD i (0, "left") = (t, s) ∧ SideOk s ∧ t ∈ S1.flatten ∧ canAt L S1 t s = true ∧ Tour L S (goneT L S1 (plT S1 t) t s) (r.take (i + 1)) ∧ runT L (goneT L S1 (plT S1 t) t s) (r.drop (i + 1)) = .ok S' := by
  obtain ⟨t, s, e, hss⟩ := row_at hs hi
  rw [drop_row hi, e, runT_cons] at hr
  have e2 : r.take (i + 1) = r.take i ++ [(t, s)] := by
    rw [List.take_add_one, ← e, List.getD_eq_getElem?_getD, List.getElem?_eq_getElem hi]
    rfl
  by_cases h1 : t ∈ S1.flatten
  · rw [if_pos h1] at hr
    by_cases h2 : canAt L S1 t s = true
    · rw [if_pos h2] at hr
      refine ⟨t, s, e, hss, h1, h2, ?_, hr⟩
      rw [e2]
      exact tour_snoc T h1 hss h2
    · rw [if_neg h2] at hr
      cases hr
  · rw [if_neg h1] at hr
    cases hr
theorem tour_full (T : Tour L S S' r) {S1 : Std} (h : Tour L S S1 (r.take r.length)) : S1 = S' := by
  have a := h.run
  rw [List.take_length, T.run] at a
  cases a
  rfl
theorem gone_same (hS : Scn L S1) {t : Int} {s : Str} (ht : t ∈ S1.flatten) (hs : SideOk s) (hc : canAt L S1 t s = true) : grpsT L (goneT L S1 (plT S1 t) t s).flatten = grpsT L S1.flatten := by
  obtain ⟨i, hat⟩ := atPl_of ht
  obtain ⟨q, pq⟩ := step_of hS hat hs hc
  rw [pl_of hat]
  exact gone_grps hS hs pq
theorem tour_grps (hS : Scn L S) (T : Tour L S S' r) : grpsT L S'.flatten = grpsT L S.flatten := by
  have go : ∀ i, i ≤ r.length → ∃ S1, Tour L S S1 (r.take i) ∧ runT L S1 (r.drop i) = .ok S' ∧ grpsT L S1.flatten = grpsT L S.flatten := by
    intro i
    induction i with
    | zero => exact fun _ => ⟨S, by rw [List.take_zero]; exact tour_nil hS, T.run, rfl⟩
    | succ i ih =>
      intro hi
      obtain ⟨S1, T1, r1, g1⟩ := ih (by omega)
      obtain ⟨t, s, e, hs, ht, hc, T2, r2⟩ := tour_next T1 (by omega) T.sides r1
      exact ⟨_, T2, r2, (gone_same T1.scn ht hs hc).trans g1⟩
  obtain ⟨S1, T1, _, g1⟩ := go r.length (Nat.le_refl _)
  rw [← tour_full T T1]
  exact g1
end
end Kx
end
section
set_option maxHeartbeats 4000000
namespace Kx
open PySem PySem.Spec PyProof.Rows L2 Dl
theorem dec_cast (a b : Nat) : decide ((a : Int) = b) = decide (a = b) := by
  by_cases h : a = b
  · subst h
    rw [decide_eq_true rfl, decide_eq_true rfl]
  · rw [decide_eq_false h, decide_eq_false (by omega)]
theorem dec_castL (a b : Nat) : decide ((a : Int) < b) = decide (a < b) := by
  by_cases h : a < b
  · rw [decide_eq_true h, decide_eq_true (by omega)]
  · rw [decide_eq_false h, decide_eq_false (by omega)]
end Kx
end
section
set_option maxHeartbeats 4000000
namespace Kx
open PySem PySem.Spec PyProof.Rows L2 Dl
section
variable {L : Lin} {m : Nat}
theorem jn_iff {j : Nat} : jnT L m j = true ↔ ∃ i, i < L.length ∧ mixT L i = true ∧ lowL L m i ≤ (j : Int) ∧ (j : Int) < highL L m i - 1 := by
  have lo : ∀ i, lowL L m i = lowT L m i := fun i => by unfold lowL lowT; rw [caps_drop]
  constructor
  · intro h
    obtain ⟨k, i, hi, hm, h1, h2⟩ := join_is h
    refine ⟨i, hi, hm, by rw [lo]; exact h1, ?_⟩
    have h2 : (j : Int) + 2 ≤ caps (L.take (i + 1)) := h2
    unfold highL
    split <;> omega
  · rintro ⟨i, hi, hm, h1, h2⟩
    rw [lo] at h1
    have a : highL L m i ≤ m := (low_high L m i).2
    refine join_of hi hm h1 ?_ (by omega)
    show (j : Int) + 2 ≤ caps (L.take (i + 1))
    unfold highL at h2
    split at h2 <;> omega
theorem blk_lt {i b : Nat} (hib : i < b) (hb : b < (blksT L m).length) : ((blksT L m).getD i (0, 0)).2 < ((blksT L m).getD b (0, 0)).1 := by
  have := (blkF_ord (jnT L m) m).2
  have hi : i < (blksT L m).length := by omega
  rw [List.getD_eq_getElem?_getD, List.getD_eq_getElem?_getD, List.getElem?_eq_getElem hi, List.getElem?_eq_getElem hb]
  exact List.pairwise_iff_getElem.mp this i b hi hb hib
end
end Kx
end
section
set_option maxHeartbeats 4000000
namespace Kx
open PySem PySem.Spec PyProof.Rows L2 Dl
theorem srt_uniq {α : Type} {R : α → α → Prop} : ∀ {a b : List α}, a.Perm b → a.Pairwise R → b.Pairwise R → (∀ x ∈ a, ∀ y ∈ a, R x y → R y x → x = y) → a = b
  | [], b, p, _, _, _ => (List.Perm.nil_eq p)
  | x :: a, [], p, _, _, _ => absurd p.length_eq (by simp)
  | x :: a, y :: b, p, ha, hb, h => by
    have e : x = y := by
      rcases List.mem_cons.mp (p.mem_iff.mp (List.mem_cons_self ..)) with e | m1
      · exact e
      · rcases List.mem_cons.mp (p.mem_iff.mpr (List.mem_cons_self ..)) with e | m2
        · exact e.symm
        · exact h x (List.mem_cons_self ..) y (List.mem_cons_of_mem _ m2) ((List.pairwise_cons.mp ha).1 y m2) ((List.pairwise_cons.mp hb).1 x m1)
    subst e
    rw [srt_uniq (List.perm_cons x |>.mp p) (List.pairwise_cons.mp ha).2 (List.pairwise_cons.mp hb).2 fun u hu v hv => h u (List.mem_cons_of_mem _ hu) v (List.mem_cons_of_mem _ hv)]
def hop2R (L : Lin) (S : Std) (t : Int) : Row := (if canAt L S t "left" = true then [(t, ("left" : Str))] else []) ++ (if canAt L S t "right" = true then [(t, ("right" : Str))] else [])
def hopsR (L : Lin) (S : Std) : Row := ((sortI S.flatten).map (hop2R L S)).flatten
theorem hop2_row (L : Lin) (S : Std) (t : Int) : hop2 L S t = rowD (hop2R L S t) := by
  unfold hop2 hop1 hop2R rowD
  rw [List.map_append]
  congr 1
  · split <;> rfl
  · split <;> rfl
theorem hops_row (L : Lin) (S : Std) : hopsT L S = rowD (hopsR L S) := by
  unfold hopsT hopsR rowD
  rw [List.map_flatten, List.map_map]
  congr 1
  exact List.map_congr_left fun t _ => hop2_row L S t
theorem hop2_mem {L : Lin} {S : Std} {t : Int} {p : Int × Str} (h : p ∈ hop2R L S t) : p.1 = t ∧ SideOk p.2 ∧ canAt L S t p.2 = true := by
  unfold hop2R at h
  rcases List.mem_append.mp h with h | h
  · split at h
    · rename_i hc
      rw [List.mem_singleton.mp h]
      exact ⟨rfl, .inl rfl, hc⟩
    · cases h
  · split at h
    · rename_i hc
      rw [List.mem_singleton.mp h]
      exact ⟨rfl, .inr rfl, hc⟩
    · cases h
end Kx
end
section
set_option maxHeartbeats 4000000
namespace Kx
open PySem PySem.Spec PyProof.Rows L2 Dl
def stKs (S : Std) : List NK := S.map fun l => .tup (l.map .num)
abbrev stK (S : Std) : NK := .tup (stKs S)
theorem datas_map {α : Type} {f : α → NK} {g : α → PyData} (h : ∀ a, (f a).data = g a) : ∀ l : List α, NestedKey.datas (l.map f) = l.map g
  | [] => by rw [List.map_nil, NestedKey.datas]; rfl
  | a :: l => by rw [List.map_cons, NestedKey.datas, h a, datas_map h l]; rfl
theorem stK_data (S : Std) : stdD S = tupN (stKs S) := by
  unfold tupN stKs
  rw [datas_map (g := tupD) fun l => by rw [NestedKey.data, datas_map (g := PyData.int) fun i => by rw [NestedKey.data]]; rfl]
  rfl
theorem map_inj {α β : Type} {f : α → β} (h : ∀ a b, f a = f b → a = b) : ∀ {l m : List α}, l.map f = m.map f → l = m
  | [], [], _ => rfl
  | a :: l, b :: m, e => by
    rw [List.map_cons, List.map_cons] at e
    rw [h _ _ (List.cons.inj e).1, map_inj h (List.cons.inj e).2]
  | [], _ :: _, e => by cases e
  | _ :: _, [], e => by cases e
theorem stK_inj {S S' : Std} (h : stK S = stK S') : S = S' :=
  map_inj (fun a b e => map_inj (fun i j z => NestedKey.num.inj z) (NestedKey.tup.inj e)) (NestedKey.tup.inj h)
theorem dAll_le {n : Nat} : ∀ {l : List NK}, (∀ k ∈ l, k.depth ≤ n) → NestedKey.depthAll l ≤ n
  | [], _ => by rw [NestedKey.depthAll]; exact Nat.zero_le _
  | k :: l, h => by
    rw [NestedKey.depthAll]
    exact Nat.max_le.mpr ⟨h k List.mem_cons_self, dAll_le fun x hx => h x (List.mem_cons_of_mem _ hx)⟩
theorem stK_depth (S : Std) : (NestedKey.tup (stKs S)).depth ≤ 8 := by
  rw [NestedKey.depth]
  have : NestedKey.depthAll (stKs S) ≤ 1 := dAll_le fun k hk => by
    obtain ⟨l, _, rfl⟩ := List.mem_map.mp hk
    rw [NestedKey.depth]
    have : NestedKey.depthAll (l.map NestedKey.num) ≤ 0 := dAll_le fun x hx => by
      obtain ⟨i, _, rfl⟩ := List.mem_map.mp hx
      rw [NestedKey.depth]
      exact Nat.le_refl 0
    omega
  omega
abbrev Fnd := List (Std × Nat)
def fndT (Fs : Fnd) : KNs := Fs.map fun p => (stK p.1, PyData.int (p.2 : Nat))
theorem fnd_len (Fs : Fnd) : (fndT Fs).length = Fs.length := List.length_map _
theorem fnd_none : ∀ {Fs : Fnd} {S : Std}, S ∉ Fs.map (·.1) → lkN (fndT Fs) (stK S) = none
  | [], S, _ => rfl
  | p :: Fs, S, h => by
    show (if stK p.1 = stK S then some _ else lkN (fndT Fs) (stK S)) = none
    rw [if_neg fun z => h (by rw [← stK_inj z]; exact List.mem_cons_self)]
    exact fnd_none fun z => h (List.mem_cons_of_mem _ z)
theorem fnd_some : ∀ {Fs : Fnd} {S : Std} {n : Nat}, (Fs.map (·.1)).Nodup → (S, n) ∈ Fs → lkN (fndT Fs) (stK S) = some (.int (n : Nat))
  | p :: Fs, S, n, hn, h => by
    show (if stK p.1 = stK S then some (PyData.int (p.2 : Nat)) else lkN (fndT Fs) (stK S)) = _
    rw [List.map_cons] at hn
    obtain ⟨n1, n2⟩ := List.nodup_cons.mp hn
    rcases List.mem_cons.mp h with rfl | h
    · rw [if_pos rfl]
    · rw [if_neg fun z => n1 (by rw [stK_inj z]; exact List.mem_map_of_mem h)]
      exact fnd_some n2 h
theorem fnd_has {Fs : Fnd} {S : Std} (hn : (Fs.map (·.1)).Nodup) : (lkN (fndT Fs) (stK S)).isSome = decide (S ∈ Fs.map (·.1)) := by
  by_cases h : S ∈ Fs.map (·.1)
  · obtain ⟨p, hp, rfl⟩ := List.mem_map.mp h
    rw [fnd_some hn (n := p.2) hp, decide_eq_true h]
    rfl
  · rw [fnd_none h, decide_eq_false h]
    rfl
theorem fnd_put {Fs : Fnd} {S : Std} {n : Nat} (h : S ∉ Fs.map (·.1)) : ptN (fndT Fs) (stK S) (.int (n : Nat)) = fndT (Fs ++ [(S, n)]) := by
  unfold ptN
  rw [fnd_none h]
  show fndT Fs ++ _ = _
  unfold fndT
  rw [List.map_append]
  rfl
def goP (L : Lin) (S : Std) (p : Int × Str) : Std := goneT L S (plT S p.1) p.1 p.2
section
variable {L : Lin} {S S' : Std} {r : Row} {d : Nat} {Fs Gs : Fnd} {lay : List Std}
theorem hops_iff {p : Int × Str} : p ∈ hopsR L S ↔ p.1 ∈ S.flatten ∧ SideOk p.2 ∧ canAt L S p.1 p.2 = true := by
  constructor
  · intro h
    obtain ⟨l, hl, hp⟩ := List.mem_flatten.mp h
    obtain ⟨t, ht, rfl⟩ := List.mem_map.mp hl
    obtain ⟨e, hs, hc⟩ := hop2_mem hp
    rw [e]
    exact ⟨(sortI_perm _).mem_iff.mp ht, hs, hc⟩
  · rintro ⟨h1, h2, h3⟩
    refine List.mem_flatten.mpr ⟨hop2R L S p.1, List.mem_map.mpr ⟨p.1, (sortI_perm _).mem_iff.mpr h1, rfl⟩, ?_⟩
    obtain ⟨t, s⟩ := p
    unfold hop2R
    rcases h2 with rfl | rfl
    · refine List.mem_append_left _ ?_
      rw [if_pos h3]
      exact List.mem_cons_self
    · refine List.mem_append_right _ ?_
      rw [if_pos h3]
      exact List.mem_cons_self
theorem tour_go (T : Tour L S S' r) {p : Int × Str} (h : p ∈ hopsR L S') : Tour L S (goP L S' p) (r ++ [p]) := by
  obtain ⟨h1, h2, h3⟩ := hops_iff.mp h
  exact tour_snoc T h1 h2 h3
theorem tour_pre (hS : Scn L S) (T : Tour L S S' r) : ∀ i, i ≤ r.length → ∃ S1, Tour L S S1 (r.take i) ∧ runT L S1 (r.drop i) = .ok S'
  | 0, _ => ⟨S, tour_nil hS, T.run⟩
  | i + 1, h => by
    obtain ⟨S1, T1, r1⟩ := tour_pre hS T i (by omega)
    obtain ⟨t, s, _, _, _, _, T2, r2⟩ := tour_next T1 (by omega) T.sides r1
    exact ⟨_, T2, r2⟩
/-- the last move of a row -/
theorem tour_last (hS : Scn L S) {n : Nat} (T : Tour L S S' r) (hl : r.length = n + 1) : ∃ S1 r0 p, Tour L S S1 r0 ∧ r0.length = n ∧ p ∈ hopsR L S1 ∧ S' = goP L S1 p := by
  obtain ⟨S1, T1, r1⟩ := tour_pre hS T n (by omega)
  obtain ⟨t, s, _, hs, ht, hc, T2, r2⟩ := tour_next T1 (by omega) T.sides r1
  have e : S' = goneT L S1 (plT S1 t) t s := by
    rw [List.drop_eq_nil_of_le (by omega), runT_nil] at r2
    cases r2
    rfl
  exact ⟨S1, r.take n, (t, s), T1, by rw [List.length_take]; omega, hops_iff.mpr ⟨ht, hs, hc⟩, e⟩
structure Bfs (L : Lin) (S : Std) (d : Nat) (Fs : Fnd) (lay : List Std) : Prop where
  nodup : (Fs.map (·.1)).Nodup
  sound : ∀ p ∈ Fs, p.2 ≤ d ∧ ∃ r, Tour L S p.1 r ∧ r.length = p.2
  full : ∀ S' r, Tour L S S' r → r.length ≤ d → ∃ v, v ≤ r.length ∧ (S', v) ∈ Fs
  lay : ∀ S', S' ∈ lay ↔ (S', d) ∈ Fs
theorem bfs_start (hS : Scn L S) : Bfs L S 0 [(S, 0)] [S] where
  nodup := by simp
  sound := fun p hp => by
    rw [List.mem_singleton.mp hp]
    exact ⟨Nat.le_refl _, [], tour_nil hS, rfl⟩
  full := fun S' r T hr => by
    have e : r = [] := List.length_eq_zero_iff.mp (by omega)
    subst e
    have := T.run
    rw [runT_nil] at this
    cases this
    exact ⟨0, Nat.le_refl _, by simp⟩
  lay := fun S' => by simp
/-- between two layers: Gs is new, the hops of the first i of the layer are done, and the first j of the next -/
structure Bin (L : Lin) (S : Std) (d : Nat) (Fs : Fnd) (lay : List Std) (Gs : Fnd) (i j : Nat) : Prop where
  nodup : ((Fs ++ Gs).map (·.1)).Nodup
  new : ∀ p ∈ Gs, p.2 = d + 1 ∧ ∃ r, Tour L S p.1 r ∧ r.length = d + 1
  done : ∀ t, t < i → ∀ p ∈ hopsR L (lay.getD t []), goP L (lay.getD t []) p ∈ (Fs ++ Gs).map (·.1)
  cur : ∀ q, q < j → goP L (lay.getD i []) ((hopsR L (lay.getD i [])).getD q (0, "left")) ∈ (Fs ++ Gs).map (·.1)
theorem bin_start (B : Bfs L S d Fs lay) : Bin L S d Fs lay [] 0 0 := ⟨by rw [List.append_nil]; exact B.nodup, fun _ h => (by cases h), fun _ h => absurd h (by omega), fun _ h => absurd h (by omega)⟩
theorem bin_old {i j : Nat} (B : Bin L S d Fs lay Gs i j) (h : goP L (lay.getD i []) ((hopsR L (lay.getD i [])).getD j (0, "left")) ∈ (Fs ++ Gs).map (·.1)) : Bin L S d Fs lay Gs i (j + 1) := ⟨B.nodup, B.new, B.done, fun q hq => by
  by_cases z : q < j
  · exact B.cur q z
  · have : q = j := by omega
    subst this
    exact h⟩
theorem bin_new {i j : Nat} (A : Bfs L S d Fs lay) (B : Bin L S d Fs lay Gs i j) (hi : i < lay.length) (hj : j < (hopsR L (lay.getD i [])).length) (h : goP L (lay.getD i []) ((hopsR L (lay.getD i [])).getD j (0, "left")) ∉ (Fs ++ Gs).map (·.1)) :
    Bin L S d Fs lay (Gs ++ [(goP L (lay.getD i []) ((hopsR L (lay.getD i [])).getD j (0, "left")), d + 1)]) i (j + 1) := by
  have hm : (lay.getD i []) ∈ lay := by
    rw [List.getD_eq_getElem?_getD, List.getElem?_eq_getElem hi]
    exact List.getElem_mem hi
  obtain ⟨_, r, T, hr⟩ := A.sound _ ((A.lay _).mp hm)
  have hp : (hopsR L (lay.getD i [])).getD j (0, "left") ∈ hopsR L (lay.getD i []) := by
    rw [List.getD_eq_getElem?_getD (l := hopsR L (lay.getD i [])), List.getElem?_eq_getElem hj]
    exact List.getElem_mem hj
  have up : ∀ x, x ∈ (Fs ++ Gs).map (·.1) → x ∈ (Fs ++ (Gs ++ [(goP L (lay.getD i []) ((hopsR L (lay.getD i [])).getD j (0, "left")), d + 1)])).map (·.1) := fun x hx => by
    rw [← List.append_assoc, List.map_append]
    exact List.mem_append_left _ hx
  refine ⟨?_, fun p hp' => ?_, fun t ht p hp => up _ (B.done t ht p hp), fun q hq => ?_⟩
  · rw [← List.append_assoc, List.map_append]
    refine List.nodup_append.mpr ⟨B.nodup, by simp, fun a ha b hb e => ?_⟩
    rw [List.map_cons, List.map_nil] at hb
    rw [List.mem_singleton.mp hb] at e
    have e2 : a = goP L (lay.getD i []) ((hopsR L (lay.getD i [])).getD j (0, "left")) := e
    exact h (by rw [← e2]; exact ha)
  · rcases List.mem_append.mp hp' with q | q
    · exact B.new p q
    · rw [List.mem_singleton.mp q]
      exact ⟨rfl, _, tour_go T hp, by rw [List.length_append, hr]; rfl⟩
  · by_cases z : q < j
    · exact up _ (B.cur q z)
    · have : q = j := by omega
      subst this
      rw [← List.append_assoc, List.map_append]
      exact List.mem_append_right _ (by simp)
theorem bin_next {i j : Nat} (B : Bin L S d Fs lay Gs i j) (hj : (hopsR L (lay.getD i [])).length ≤ j) : Bin L S d Fs lay Gs (i + 1) 0 := ⟨B.nodup, B.new, fun t ht p hp => by
  by_cases z : t < i
  · exact B.done t z p hp
  · have : t = i := by omega
    subst this
    obtain ⟨q, hq, e⟩ := List.getElem_of_mem hp
    have := B.cur q (by omega)
    rw [List.getD_eq_getElem?_getD (l := hopsR L (lay.getD t [])), List.getElem?_eq_getElem hq, Option.getD_some, e] at this
    exact this, fun q hq => absurd hq (by omega)⟩
theorem bin_end (hS : Scn L S) (A : Bfs L S d Fs lay) {i : Nat} (B : Bin L S d Fs lay Gs i 0) (hi : lay.length ≤ i) : Bfs L S (d + 1) (Fs ++ Gs) (Gs.map (·.1)) where
  nodup := B.nodup
  sound := fun p hp => by
    rcases List.mem_append.mp hp with h | h
    · obtain ⟨h1, h2⟩ := A.sound p h
      exact ⟨by omega, h2⟩
    · obtain ⟨h1, r, h2, h3⟩ := B.new p h
      exact ⟨by omega, r, h2, by omega⟩
  full := fun S' r T hr => by
    by_cases z : r.length ≤ d
    · obtain ⟨v, h1, h2⟩ := A.full S' r T z
      exact ⟨v, h1, List.mem_append_left _ h2⟩
    · obtain ⟨S1, r0, p, T0, l0, hp, rfl⟩ := tour_last hS T (n := d) (by omega)
      obtain ⟨v, hv, hm⟩ := A.full S1 r0 T0 (by omega)
      by_cases y : v = d
      · subst y
        have hl := (A.lay S1).mpr hm
        obtain ⟨t, ht, e⟩ := List.getElem_of_mem hl
        have e2 : lay.getD t [] = S1 := by rw [List.getD_eq_getElem?_getD, List.getElem?_eq_getElem ht]; exact e
        have := B.done t (by omega) p (by rw [e2]; exact hp)
        rw [e2] at this
        obtain ⟨q, hq, e3⟩ := List.mem_map.mp this
        refine ⟨q.2, ?_, by rw [← e3]; exact hq⟩
        rcases List.mem_append.mp hq with h | h
        · have := (A.sound q h).1; omega
        · have := (B.new q h).1; omega
      · obtain ⟨_, r1, T1, l1⟩ := A.sound _ hm
        obtain ⟨v', h1, h2⟩ := A.full _ _ (tour_go T1 hp) (by rw [List.length_append]; show r1.length + 1 ≤ d; omega)
        exact ⟨v', by rw [List.length_append] at h1; have h1 : v' ≤ r1.length + 1 := h1; omega, List.mem_append_left _ h2⟩
  lay := fun S' => by
    constructor
    · intro h
      obtain ⟨p, hp, rfl⟩ := List.mem_map.mp h
      refine List.mem_append_right _ ?_
      rw [← (B.new p hp).1]
      exact hp
    · intro h
      rcases List.mem_append.mp h with h | h
      · have := (A.sound _ h).1
        exact absurd this (by show ¬ d + 1 ≤ d; omega)
      · exact List.mem_map_of_mem (f := (·.1)) h
/-- all that is reached, each with its least number of moves -/
structure Rch (L : Lin) (S : Std) (Fs : Fnd) : Prop where
  nodup : (Fs.map (·.1)).Nodup
  sound : ∀ p ∈ Fs, ∃ r, Tour L S p.1 r ∧ r.length = p.2
  full : ∀ S' r, Tour L S S' r → ∃ v, v ≤ r.length ∧ (S', v) ∈ Fs
theorem bfs_all (hS : Scn L S) (A : Bfs L S d Fs []) : Rch L S Fs where
  nodup := A.nodup
  sound := fun p hp => (A.sound p hp).2
  full := by
    have main : ∀ n S' r, Tour L S S' r → r.length = n → ∃ v, v ≤ n ∧ (S', v) ∈ Fs := fun n => by
      induction n with
      | zero =>
        intro S' r T hr
        obtain ⟨v, h1, h2⟩ := A.full S' r T (by omega)
        exact ⟨v, by omega, h2⟩
      | succ n ih =>
        intro S' r T hr
        obtain ⟨S1, r0, p, T0, l0, hp, rfl⟩ := tour_last hS T hr
        obtain ⟨v, hv, hm⟩ := ih S1 r0 T0 l0
        obtain ⟨hd, r1, T1, l1⟩ := A.sound _ hm
        have hne : v ≠ d := fun z => by
          subst z
          have := (A.lay S1).mpr hm
          cases this
        have hd : v ≤ d := hd
        have l1 : r1.length = v := l1
        obtain ⟨v', h1, h2⟩ := A.full _ _ (tour_go T1 hp) (by rw [List.length_append]; show r1.length + 1 ≤ d; omega)
        exact ⟨v', by rw [List.length_append] at h1; have h1 : v' ≤ r1.length + 1 := h1; omega, h2⟩
    exact fun S' r T => main _ S' r T rfl
end
end Kx
end
section
set_option maxHeartbeats 4000000
namespace Kx
open PySem PySem.Spec PyProof.Rows L2 Dl
theorem deep_stds {l : List Std} (h : l.length ≤ 90000) (hs : ∀ S' ∈ l, S'.flatten.length ≤ 40 ∧ S'.length ≤ 40) : Deep 3 (.list (l.map stdD)) := .list 2 _ (by rw [List.length_map]; omega) fun d hd => by
  obtain ⟨S', h', rfl⟩ := List.mem_map.mp hd
  obtain ⟨h1, h2⟩ := hs S' h'
  exact deep_std h2 h1
def phReached (P : Program) (w : World) (K : PySem.W.Frag) : List PyData → (O → Prop) → Prop := fun ds Kt => ∃ (L : Lin) (S : Std) (most B : Nat), ds = [lineD L, stdD S, .int (most : Nat)] ∧ Scn L S ∧ L.length ≤ 40 ∧ kindsOk L ∧ S.flatten.length ≤ 40 ∧ B ≤ 90000 ∧
  (∀ l : List Std, l.Nodup → (∀ S' ∈ l, ∃ r, Tour L S S' r) → l.length ≤ B) ∧ (∀ Fs ob, Rch L S Fs → Fs.length ≤ most → Kt (ndO P w K ob (fndT Fs))) ∧ ((∃ l : List Std, l.Nodup ∧ (∀ S' ∈ l, ∃ r, Tour L S S' r) ∧ most < l.length) → Kt (.fz .none))
end Kx
end
section
set_option maxHeartbeats 4000000
namespace Kx
open PySem PySem.Spec PyProof.Rows L2 Dl
local macro_rules | `(tactic| walk_at "dd") => `(tactic| simp only [dC, dVar, dBin, dTest, onB, dNotT, dAndT, dOrT, dAndV, dOrV, dNotV, dIf, dNil, dCons, dCB, dSeqI, dRng1, dRng2, dEnI, dZpI, escs, esc, fix1, fixN, mov, vw, vk, see, seeAll, dNext, dSeq, dBreak, dCont, dExpr, dRet, dRetN, dIfS, dSet, dMulti, putN, gdName, gdNil, gdCons, gdTup, dFor, dWhile, dCallP, dCallV, vws, isScal, onBox, dCallB, dTup, dLst, dLstO, dIx, onI2, dNegI, dAdd2, addD, dEq2, eqK, dIn2, dLen, onI1, onI12, dInt1, onInts, dToL, dToT, onBs, dMeth, isOwn, rhoApp, rhoPopAt, dStore, dRep2, dNoP, dPart, dSlice, wipeG, dYes, dLc, dIsi, dIsNT, dIsN, nonOf, dAug, dUnp, dKwP, pick, dNewD, dUpd, onPairs, dSortD, onIntsA, onOlAt, dAppT, dCallS, dLenS, dIxS, dLc2, lcTurn, List.getD_cons_zero, List.getD_cons_succ, Nat.zero_le, zl1, zl2, zl3, zl4, zl5, zl6, zl7, zl8, zl9, zl10, zl11, ls1, ls2, ls3, ls4, eq_self, Nat.reduceAdd, Nat.reduceEqDiff, itemsOf_list, itemsOf_tuple, Dl.get, Dl.put, List.length_cons, List.length_nil, List.map_cons, List.map_nil, id, true_and, and_true, true_implies, forall_const, Bool.not_true, Bool.not_false, reduceCtorEq, false_implies, Nat.zero_add, ite_true, ite_false, Bool.true_eq_false, Bool.false_eq_true])
local macro_rules | `(tactic| walk_at "w") => `(tactic| conv => whnf)
local macro_rules | `(tactic| walk_at "cb") => `(tactic| ((conv => whnf); refine ⟨rfl, rfl, Nat.zero_lt_succ _, ?_⟩; (conv => whnf)))
local macro_rules | `(tactic| walk_at "cp") => `(tactic| ((conv => whnf); refine ⟨rfl, ?_⟩; (conv => whnf)))
local macro_rules | `(tactic| walk_at "a") => `(tactic| ((conv => whnf); repeat (first | (refine ⟨leS rfl, ?_⟩; (conv => whnf)) | (refine ⟨trivial, ?_⟩; (conv => whnf)) | (refine ⟨rfl, ?_⟩; (conv => whnf)) | (refine ⟨Nat.zero_lt_succ _, ?_⟩; (conv => whnf)) | (refine ⟨(show (2 : Nat) < _ from ltN rfl), ?_⟩; (conv => whnf)) | (refine ⟨(show Dl.inR _ from (by unfold Dl.inR; omega)), ?_⟩; (conv => whnf)) | (refine ⟨fun _ => ?_, fun z => Bool.noConfusion (show true = false from z)⟩; (conv => whnf)) | (refine ⟨fun z => Bool.noConfusion (show false = true from z), fun _ => ?_⟩; (conv => whnf))); try (first | refine norm_ex (by dsimp only [Dl.put, Dl.wipeG, Dl.putN, puts]) ?_ | refine norm_lc (by dsimp only [Dl.put, Dl.wipeG, Dl.putN, puts]) ?_)))
local macro_rules | `(tactic| walk_at "b") => `(tactic| ((try dsimp only [puts, Dl.put, Dl.putN, Dl.wipeG]); walk_at "a"))
local macro_rules | `(tactic| walk_at "d") => `(tactic| ((walk_at "b"); dsimp only))
section
variable {P : Program} {w : World} {K : PySem.W.Frag} {mg : Str → Option Value} {base : Heap}
theorem can_iNoTrain {cN fI : Addr} {fd : FuncData} (xc : XC K cN "LookupError.__new__" (bmOf "LookupError")) (hm : mg "NoTrain" = some (.ref cN)) (hi : PySem.W.findIn K (.ref cN) "__init__" = some (some (.ref fI))) (ht : PySem.W.typeIn K (.ref fI) = some (.type "function"))
    (D : Fun K "__init__" "NoTrain.__init__" s_iNoTrain fI fd) (hb : Binds K fd ["self", "train"] []) (hno : PySem.W.findIn K (.ref cN) "train" = some none) (B : Blt mg) (look : PySem.W.findCls K (.type "LookupError") (.type "type") "__init__" = some (.val (.builtin "LookupError.__init__"))) :
    CanI P w K mg base 1 "NoTrain" cN "LookupError.__new__" (bmOf "LookupError") "train" id fun _ => True := by
  refine ⟨hm, xc, fI, fd, hi, ht, hb, fnI D sc_iNoTrain rfl fun cdv A outer s H E hr => ⟨_, ds_cons (ds_expr (de_xinit xb_Lookup B.LookupError PyProof.Rows.Boot.«LookupError» look (da_cons (dv 0) (da_cons de_str da_nil)))) (ds_single (ds_xset 0 xb_Lookup (dv 1))), fun a d _ => ?_⟩⟩
  show (dSeq _ _) _ [some (.ob (newP cN a)), some (.fz d)]
  walk_at "w"
  refine ⟨0, cN, a, _, rfl, rfl, xc, by show 1 ≤ 1000; decide, ?_⟩
  walk_at "w"
  exact ⟨cN, a, rfl, xc, hno, rfl⟩
theorem st_capacity (a0 : O) : startG ["line", "_", "size"] [a0] = [some a0, none, none] := rfl
theorem can_capacity (D : At K mg "capacity" s_capacity ["line"]) (B : Blt mg) : Can P w K mg base (1) "capacity" ["line"] (spP K 1 phCap) := by
  refine D.canP sc_capacity rfl fun f cdv A outer s H E hr => ⟨_, (ds_single (ds_ret (de_b fit_sumA (cr_sumA rfl) rfl B.sum (by decide +kernel) (da_cons (de_lc sc_capacity.nd (di_seq (dv 0)) (blkOk_by (own := [("_", 1), ("size", 2)]) (by rfl)) (fun _ _ _ _ _ => (dg_tup (n := 2) (dgs_cons (dg_name 1 sc_capacity.nd) (dgs_cons (dg_name 2 sc_capacity.nd) dgs_nil)))) (fun _ _ _ _ _ => dts_nil) (fun _ _ _ _ _ => (dv 2))) da_nil)))), fun ds Kt hl h => ?_⟩
  obtain ⟨d, L, rfl, ⟨k, ps, hi, hn, hp⟩, h5, hk⟩ := h
  simp only [List.map_cons, List.map_nil]
  rw [st_capacity]
  walk_at "dd"
  simp only [hi]
  refine ⟨fun i acc Γ => acc = ((L.take i).map (·.2)).map .int ∧ Γ = [some (.fz d), none, none], ?_, ?_, ?_⟩
  · exact ⟨rfl, rfl⟩
  · rintro i acc Γ hlt ⟨rfl, rfl⟩
    try walk_at "dd"
    obtain ⟨k', h2⟩ := hp i (by omega)
    simp only [h2]
    try walk_at "dd"
    refine ⟨lt_size (by simp; omega), ?_⟩
    rw [take_at z0 (by omega)]
    simp
  · rintro acc Γ ⟨rfl, rfl⟩
    try walk_at "dd"
    refine ⟨true, L.map (·.2), ?_, by unfold caps at hk; exact hk⟩
    rw [hn, List.take_length]
theorem st_joints (a0 a1 : O) : startG ["line", "many", "mixing", "at", "low", "high"] [a0, a1] = [some a0, some a1, none, none, none, none] := rfl
theorem can_joints (D : At K mg "joints" s_joints ["line", "many"]) (B : Blt mg) (c_mixing_spans : Can P w K mg base 3 "mixing_spans" ["line", "many"] (spP K 2 phMix)) : Can P w K mg base (4) "joints" ["line", "many"] (spP K 2 phJoints) := by
  refine D.canP sc_joints rfl fun f cdv A outer s H E hr => ⟨_, (ds_cons (ds_set 2 sc_joints.nd (de_canP c_mixing_spans hr (da_cons (dv 0) (da_cons (dv 1) da_nil))))
    (ds_single (ds_ret (de_lc sc_joints.nd (di_range1 rfl B.range (da_cons (de_subI (dv 1) de_int) da_nil)) (blkOk_by (own := [("at", 3)]) (by rfl)) (fun _ _ _ _ _ => (dg_name 3 sc_joints.nd)) (fun _ _ _ _ _ => (dts_one (dt_val (de_b fit_any (cr_any rfl) rfl B.any (by decide +kernel) (da_cons (de_lc sc_joints.nd (di_seq (dv 2)) (blkOk_by (own := [("low", 4), ("high", 5)]) (by rfl)) (fun _ _ _ _ _ => (dg_tup (n := 2) (dgs_cons (dg_name 4 sc_joints.nd) (dgs_cons (dg_name 5 sc_joints.nd) dgs_nil)))) (fun _ _ _ _ _ => dts_nil) (fun _ _ _ _ _ => (de_and (de_le (dv 4) (dv 3)) (de_one (de_le (de_add (dv 3) de_int) (dv 5)))))) da_nil))))) (fun _ _ _ _ _ => (dv 3)))))), fun ds Kt hl h => ?_⟩
  obtain ⟨d, L, m, rfl, hL, h5, hK, h9, hk⟩ := h
  obtain ⟨k, ps, hi, hn, hp⟩ := id hL
  simp only [List.map_cons, List.map_nil]
  rw [st_joints]
  try walk_at "dd"
  refine ⟨d, L, m, rfl, hL, h5, hK, ?_⟩
  try walk_at "dd"
  refine ⟨by unfold Dl.inR; omega, fun i acc Γ => acc = natsD ((List.range i).filter (joinT L m)) ∧ ∃ o, (o = .own ((mixs L L.length).map (spanD L m)) ∨ o = .fz (.list ((mixs L L.length).map (spanD L m)))) ∧ Γ = [some (.fz d), some (.fz (.int m)), some o, none, none, none], ?_, ?_, ?_⟩
  · exact ⟨rfl, _, .inl rfl, rfl⟩
  · rintro i acc Γ hlt ⟨rfl, o, ho, rfl⟩
    have goal : ∀ o : O, o = .fz (.list ((mixs L L.length).map (spanD L m))) → True := fun _ _ => trivial
    rcases ho with rfl | rfl
    all_goals
      try walk_at "dd"
      refine ⟨fun j acc2 Γ => acc2 = (((mixs L L.length).take j).map (joinB L m i)).map .bool ∧ Γ = [some (.fz d), some (.fz (.int m)), some (.fz (.list ((mixs L L.length).map (spanD L m)))), some (.fz (.int (0 + (i : Int)))), none, none], ⟨rfl, rfl⟩, ?_, ?_⟩
      · rintro j acc2 Γ hlt2 ⟨rfl, rfl⟩
        rw [List.length_map] at hlt2
        have e : ((mixs L L.length).map (spanD L m)).getD j .none = spanD L m ((mixs L L.length).getD j 0) := by
          rw [List.getD_eq_getElem?_getD, List.getElem?_map, List.getD_eq_getElem?_getD, List.getElem?_eq_getElem hlt2]
          rfl
        rw [e]
        unfold spanD
        try walk_at "dd"
        simp only [Int.zero_add]
        have hb : joinB L m i ((mixs L L.length).getD j 0) = (decide (lowT L m ((mixs L L.length).getD j 0) ≤ (i : Int)) && decide ((i : Int) + 2 ≤ highT L ((mixs L L.length).getD j 0))) := rfl
        have hl1 := mixs_len L L.length
        refine ⟨fun h1 => ⟨lt_size (by simp; omega), ?_⟩, fun h1 => ⟨lt_size (by simp; omega), ?_⟩⟩
        · rw [take_at 0 hlt2, List.map_append, List.map_append]
          simp only [List.map_cons, List.map_nil, hb, h1, Bool.true_and]
        · rw [take_at 0 hlt2, List.map_append, List.map_append]
          simp only [List.map_cons, List.map_nil, hb, h1, Bool.false_and]
      · rintro acc2 Γ ⟨rfl, rfl⟩
        try walk_at "dd"
        rw [List.length_map, List.take_length]
        refine ⟨_, rfl, ?_⟩
        rw [← joinT_eq]
        refine ⟨fun h1 => ⟨lt_size ?_, ?_, _, .inr rfl, rfl⟩, fun h1 => ⟨?_, _, .inr rfl, rfl⟩⟩
        · rw [List.length_map]
          exact Nat.lt_of_le_of_lt (List.length_filter_le _ _) (by rw [List.length_range]; omega)
        · rw [filt_at, h1]
          simp [natsD]
        · rw [filt_at, h1]
          simp
  · rintro acc Γ ⟨rfl, o, ho, rfl⟩
    try walk_at "dd"
    have e : ((m : Int) - 1).toNat = m - 1 := by omega
    rw [e]
    exact hk
theorem st_block_of (a0 a1 a2 : O) : startG ["line", "standing", "train", "block", "group"] [a0, a1, a2] = [some a0, some a1, some a2, none, none] := rfl
theorem can_block_of (D : At K mg "block_of" s_block_of ["line", "standing", "train"]) (B : Blt mg) {cNoTrain : Addr} (i_NoTrain : CanI P w K mg base 1 "NoTrain" cNoTrain "LookupError.__new__" (bmOf "LookupError") "train" id fun _ => True) (c_groups : Can P w K mg base 6 "groups" ["line", "standing"] (spP K 2 phGroups)) : CanX P w K mg base (7) "block_of" ["line", "standing", "train"] (spX K 3 (phBlockOf cNoTrain)) := by
  refine D.canX sc_block_of rfl fun f cdv A outer s H E hr => ?_
  have tk := takes_of (X := cxOf (L2.CX P w) P w K mg base ["line", "standing", "train", "block", "group"] "block_of" (defScope s_block_of) f cdv A outer s H E) (E := E) rfl rfl rfl rfl
  exact ⟨_, (dx_cons (dx_of (ds_for (di_enum rfl B.enumerate (da_cons (de_canP c_groups hr (da_cons (dv 0) (da_cons (dv 1) da_nil))) da_nil)) (dg_tup (n := 2) (dgs_cons (dg_name 3 sc_block_of.nd) (dgs_cons (dg_name 4 sc_block_of.nd) dgs_nil)))
      (ds_single (ds_if (dt_in (dv 2) (dv 4)) (ds_single (ds_ret (dv 3))) ds_nil))))
    (dx_single (dx_raise xb_Lookup i_NoTrain tk hr (da_cons (dv 2) da_nil)))), fun ds Kt Ke hl h => by
    obtain ⟨d, e, L, S, t, rfl, hL, hS, h5, hK, h9, hk, hke⟩ := h
    simp only [List.map_cons, List.map_nil]
    rw [st_block_of]
    walk_at "w"
    refine ⟨rfl, d, e, L, S, rfl, hL, hS, h5, hK, h9, ?_⟩
    walk_at "w"
    have hgl := grps_len L S.flatten
    refine ⟨fun i Γ => ∃ a b : Option O, (∀ b', b' < i → t ∉ (grpsT L S.flatten).getD b' []) ∧ Γ = [some (.fz d), some (.fz e), some (.fz (.int t)), a, b], ⟨none, none, fun b' h => absurd h (Nat.not_lt_zero _), rfl⟩, ?_, ?_⟩
    · rintro i Γ hi ⟨a, b, hno, rfl⟩
      rw [List.length_map] at hi
      walk_at "w"
      refine ⟨rfl, ?_⟩
      rw [getD_map (f := tupD) [] hi]
      walk_at "w"
      refine ⟨⟨rfl, flat_ints _⟩, ?_⟩
      rw [inD_ints]
      walk_at "w"
      refine ⟨fun h1 => ?_, fun h1 => ?_⟩
      · walk_at "w"
        exact hk i ⟨hi, of_decide_eq_true h1, hno⟩
      · walk_at "w"
        refine ⟨_, _, fun b' hb' => ?_, rfl⟩
        by_cases q : b' = i
        · rw [q]
          exact of_decide_eq_false h1
        · exact hno b' (by omega)
    · rintro Γ ⟨a, b, hno, rfl⟩
      rw [List.length_map] at hno
      walk_at "w"
      exact ⟨_, rfl, trivial, hke hno⟩⟩
theorem st_of (a0 a1 : O) : startG ["_law_box_here", "_law_some"] [a0, a1] = [some a0, some a1] := rfl
theorem can_of (D : At K mg "_law_of" s_of ["_law_box_here", "_law_some"]) (B : Blt mg) (c_take : Can P w K mg base 1 "_law_take" ["_law_box_here", "_law_span"] (spB K 1 phTake)) : Can P w K mg base (2) "_law_of" ["_law_box_here", "_law_some"] (spB K 1 phOf) := by
  refine D.canB sc_of rfl fun f cdv A outer s H E hr => ⟨_, (ds_single (ds_ret (de_ix (dv 1) (de_canB c_take hr (da_cons (dv 0) (da_cons (de_b fit_len call_len_seq rfl B.len (by decide +kernel) (da_cons (dv 1) da_nil)) da_nil)))))), fun p m ds Kt hl h => ?_⟩
  obtain ⟨d, k, xs, rfl, hi, h0, h1, h2, h3⟩ := h
  simp only [List.map_cons, List.map_nil]
  rw [st_of]
  walk_at "dd"
  simp only [hi]
  refine ⟨_, rfl, by omega, by omega, h2, fun r r0 r1 => ?_⟩
  walk_at "dd"
  simp only [hi, atI_ok (e := PyData.none) r0 r1]
  exact ⟨_, rfl, h3 _ (by omega)⟩
theorem st_rail (a0 a1 a2 : O) : startG ["_law_box_here", "_law_most", "_law_top", "_law_total_here", "_law_bias", "_law_found", "_law_at", "_law_label"] [a0, a1, a2] = [some a0, some a1, some a2, none, none, none, none, none] := rfl
theorem can_rail (D : At K mg "_law_rail" s_rail ["_law_box_here", "_law_most", "_law_top"]) (B : Blt mg) (c_take : Can P w K mg base 1 "_law_take" ["_law_box_here", "_law_span"] (spB K 1 phTake)) (c_of : Can P w K mg base 2 "_law_of" ["_law_box_here", "_law_some"] (spB K 1 phOf)) : Can P w K mg base (3) "_law_rail" ["_law_box_here", "_law_most", "_law_top"] (spB K 2 phRail3) := by
  refine D.canB sc_rail rfl fun f cdv A outer s H E hr => ⟨_, (ds_cons (ds_par3 3 4 5 sc_rail.nd (da_cons (de_add de_int (de_canB c_take hr (da_cons (dv 0) (da_cons (dv 1) da_nil)))) (da_cons (de_canB c_take hr (da_cons (dv 0) (da_cons de_int da_nil))) (da_cons (de_lst da_nil) da_nil))))
    (ds_cons (ds_for (di_range1 rfl B.range (da_cons (dv 3) da_nil)) (dg_name 6 sc_rail.nd)
      (ds_cons (ds_set 7 sc_rail.nd (de_if (dt_gt (de_canB c_take hr (da_cons (dv 0) (da_cons de_int da_nil))) (dv 4)) de_str de_str))
    (ds_single (ds_expr (de_append 5 (pv 5) (da_cons (de_tup (da_cons (dv 7) (da_cons (de_add de_int (de_canB c_take hr (da_cons (dv 0) (da_cons (de_canB c_of hr (da_cons (dv 0) (da_cons (de_lst (da_cons de_int (da_cons de_int (da_cons de_int (da_cons (dv 2) da_nil))))) da_nil))) da_nil)))) da_nil))) da_nil))))))
    (ds_single (ds_ret (de_ty fit_tuple call_tuple_of rfl B.tuple (by decide +kernel) (da_cons (dv 5) da_nil)))))), fun p m ds Kt hl h => ?_⟩
  obtain ⟨most, top, rfl, m1, m2, t1, t2, hm, hk⟩ := h
  simp only [List.map_cons, List.map_nil]
  rw [st_rail]
  walk_at "cb"
  refine ⟨most, rfl, by omega, by omega, by omega, fun len r0 r1 => ?_⟩
  walk_at "cb"
  refine ⟨3, rfl, by omega, by omega, by omega, fun bias b0 b1 => ?_⟩
  walk_at "w"
  refine ⟨Nat.zero_le _, ?_⟩
  walk_at "w"
  refine ⟨rfl, ?_⟩
  walk_at "w"
  refine ⟨⟨by omega, by omega⟩, fun i Γ => ∃ (L : Lin) (m' : Nat) (a b : Option O), L.length = i ∧ kindsOk L ∧ sizesLe L (max top 3) ∧ m' ≤ m + 2 + 3 * i ∧ Γ = [some (.box p m'), some (.fz (.int most)), some (.fz (.int top)), some (.fz (.int (1 + len))), some (.fz (.int bias)), some (.own (L.map placeD)), a, b], ?_, ?_, ?_⟩
  · exact ⟨[], m + 1 + 1, none, none, rfl, fun i h => absurd h (by simp), fun i h => absurd h (by simp), by omega, rfl⟩
  · rintro i Γ hi ⟨L, m', a, b, hL, hK, hS, hm', rfl⟩
    have hi2 : (i : Int) < 1 + len := by omega
    walk_at "cb"
    refine ⟨4, rfl, by omega, by omega, by omega, fun q q0 q1 => ?_⟩
    walk_at "w"
    refine ⟨fun h1 => ?_, fun h1 => ?_⟩
    all_goals
      walk_at "w"
      refine ⟨trivial, ?_⟩
      walk_at "w"
      refine ⟨leS rfl, ?_⟩
      walk_at "cb"
      refine ⟨_, true, [.int 1, .int 2, .int 3, .int top], rfl, rfl, ltN rfl, ltN rfl, by omega, fun j hj => ?_⟩
      obtain ⟨sp, e, hsp⟩ := four_of hj
      rw [e]
      walk_at "cb"
      refine ⟨sp, rfl, by omega, by omega, by omega, fun z z0 z1 => ?_⟩
      walk_at "w"
      refine ⟨leS rfl, ?_⟩
      walk_at "w"
      refine ⟨lt_size (by rw [List.length_map]; omega), ?_⟩
    · have e9 : L.map placeD ++ [PyData.tuple [.str "yard", .int (1 + z)]] = (L ++ [(("yard" : Str), 1 + z)] : List (Str × Int)).map placeD := by rw [List.map_append]; rfl
      rw [e9]
      exact ⟨_, _, _, _, by rw [List.length_append, hL]; rfl, kindsOk_snoc hK (.inl rfl) (by omega), sizesLe_snoc hS (by omega), by omega, rfl⟩
    · have e9 : L.map placeD ++ [PyData.tuple [.str "track", .int (1 + z)]] = (L ++ [(("track" : Str), 1 + z)] : List (Str × Int)).map placeD := by rw [List.map_append]; rfl
      rw [e9]
      exact ⟨_, _, _, _, by rw [List.length_append, hL]; rfl, kindsOk_snoc hK (.inr rfl) (by omega), sizesLe_snoc hS (by omega), by omega, rfl⟩
  · rintro Γ ⟨L, m', a, b, hL, hK, hS, hm', rfl⟩
    walk_at "w"
    refine ⟨m', rfl, hk L m' (by omega) (by omega) hK hS (by omega)⟩
theorem st_parked (a0 a1 a2 : O) : startG ["_law_rail_here", "_law_row_up", "_law_numbers_here", "_law_found", "_law_at", "_law_label", "_law_top", "_law_some", "_law_part"] [a0, a1, a2] = [some a0, some a1, some a2, none, none, none, none, none, none] := rfl
theorem can_parked (D : At K mg "_law_parked" s_parked ["_law_rail_here", "_law_row_up", "_law_numbers_here"]) (B : Blt mg) : Can P w K mg base (1) "_law_parked" ["_law_rail_here", "_law_row_up", "_law_numbers_here"] (spP K 3 phParkX) := by
  refine D.canP sc_parked rfl fun f cdv A outer s H E hr => ⟨_, (ds_cons (ds_par 3 4 sc_parked.nd (da_cons (de_lst da_nil) (da_cons de_int da_nil)))
    (ds_cons (ds_for (di_zip rfl B.zip (da_cons (dv 0) (da_cons (dv 2) da_nil))) (dg_tup (n := 2) (dgs_cons (dg_tup (n := 2) (dgs_cons (dg_name 5 sc_parked.nd) (dgs_cons (dg_name 6 sc_parked.nd) dgs_nil))) (dgs_cons (dg_name 7 sc_parked.nd) dgs_nil)))
      (ds_cons (ds_set 8 sc_parked.nd (de_slice (dv 1) (dp_some (dv 4)) (dp_some (de_add (dv 4) (dv 7)))))
    (ds_cons (ds_expr (de_append 3 (pv 3) (da_cons (de_if (dt_eq hr (dv 5) de_str) (de_ty fit_tuple call_tuple_of rfl B.tuple (by decide +kernel) (da_cons (de_b fit_sorted cr_sortedI rfl B.sorted (by decide +kernel) (da_cons (dv 8) da_nil)) da_nil)) (de_ty fit_tuple call_tuple_of rfl B.tuple (by decide +kernel) (da_cons (dv 8) da_nil))) da_nil)))
    (ds_single (ds_set 4 sc_parked.nd (de_add (dv 4) (dv 7)))))))
    (ds_single (ds_ret (de_ty fit_tuple call_tuple_of rfl B.tuple (by decide +kernel) (da_cons (dv 3) da_nil)))))), fun ds Kt hl h => ?_⟩
  obtain ⟨d, L, N, r, rfl, hL, hN, h5, hK, hr9, hsum, hk⟩ := h
  obtain ⟨k, ps, hi, hn, hp⟩ := id hL
  simp only [List.map_cons, List.map_nil]
  rw [st_parked]
  walk_at "w"
  refine ⟨Nat.zero_le _, ?_⟩
  walk_at "w"
  refine ⟨rfl, ?_⟩
  walk_at "w"
  rw [hi]
  walk_at "w"
  have hNl := hN.1
  refine ⟨fun i Γ => ∃ (a b c e : Option O), Γ = [some (.fz d), some (.fz (.list (r.map .int))), some (.fz (.list (N.map .int))), some (.own (((List.range i).map (parkAt L r N)).map fun l => .tuple (l.map .int))), some (.fz (.int (N.take i).sum)), a, b, c, e], ?_, ?_, ?_⟩
  · exact ⟨none, none, none, none, rfl⟩
  · rintro i Γ hlt ⟨a, b, c, e, rfl⟩
    rw [List.length_map] at hlt
    have hi2 : i < L.length := by omega
    have hiN : i < N.length := by omega
    walk_at "w"
    refine ⟨rfl, ?_⟩
    walk_at "w"
    obtain ⟨k', h2⟩ := hp i hi2
    rw [h2]
    walk_at "w"
    refine ⟨rfl, ?_⟩
    have hs2 := hN.2 i hi2
    have hst := sum_take hiN
    walk_at "w"
    rw [getD_map_int hiN]
    walk_at "w"
    have h0 := takes_nonneg hN i
    have h01 := takes_nonneg hN (i + 1)
    have ept : Dl.cutD (r.map PyData.int) (some (N.take i).sum) (some ((N.take i).sum + N.getD i 0)) = (slN r (N.take i).sum.toNat (N.take (i + 1)).sum.toNat).map .int := by
      rw [← cut_nat, ← hst, Int.toNat_of_nonneg h0, Int.toNat_of_nonneg h01]
    refine ⟨trivial, ?_⟩
    rw [ept]
    walk_at "w"
    have hat : ((List.range (i + 1)).map (parkAt L r N)).map (fun l => PyData.tuple (l.map .int)) = (((List.range i).map (parkAt L r N)).map fun l => PyData.tuple (l.map .int)) ++ [.tuple ((parkAt L r N i).map .int)] := by
      rw [range_at, List.map_append, List.map_append]
      rfl
    refine ⟨⟨shaped_kind (hK i hi2).1, shY⟩, fun h1 => ?_, fun h1 => ?_⟩
    · walk_at "w"
      refine ⟨_, rfl, fun js j1 j2 => ?_⟩
      have ej : js = parkAt L r N i := by
        rw [sortI_eq j1 j2]
        unfold parkAt
        exact (if_pos (of_decide_eq_true (show decide ((L.getD i z0).1 = "yard") = true from h1))).symm
      walk_at "w"
      refine ⟨lt_size (by rw [List.length_map, List.length_map, List.length_range]; omega), ?_⟩
      rw [ej, ← hat]
      walk_at "w"
      rw [← hst]
      exact ⟨_, _, _, _, rfl⟩
    · have ej : slN r (N.take i).sum.toNat (N.take (i + 1)).sum.toNat = parkAt L r N i := by
        unfold parkAt
        exact (if_neg (of_decide_eq_false (show decide ((L.getD i z0).1 = "yard") = false from h1))).symm
      walk_at "w"
      refine ⟨lt_size (by rw [List.length_map, List.length_map, List.length_range]; omega), ?_⟩
      rw [ej, ← hat]
      walk_at "w"
      rw [← hst]
      exact ⟨_, _, _, _, rfl⟩
  · rintro Γ ⟨a, b, c, e, rfl⟩
    rw [List.length_map, hn, hNl, Nat.min_self]
    walk_at "w"
    exact hk
theorem st_spot (a0 a1 : O) : startG ["_law_park", "_law_cart", "_law_at", "_law_some"] [a0, a1] = [some a0, some a1, none, none] := rfl
theorem can_spot (D : At K mg "_law_spot" s_spot ["_law_park", "_law_cart"]) (B : Blt mg) : Can P w K mg base (1) "_law_spot" ["_law_park", "_law_cart"] (spP K 2 phSpot) := by
  refine D.canP sc_spot rfl fun f cdv A outer s H E hr => ⟨_, (ds_single (ds_ret (de_ix (de_lc sc_spot.nd (di_enum rfl B.enumerate (da_cons (dv 0) da_nil)) (blkOk_by (own := [("_law_at", 2), ("_law_some", 3)]) (by rfl)) (fun _ _ _ _ _ => (dg_tup (n := 2) (dgs_cons (dg_name 2 sc_spot.nd) (dgs_cons (dg_name 3 sc_spot.nd) dgs_nil)))) (fun _ _ _ _ _ => (dts_one (dt_in (dv 1) (dv 3)))) (fun _ _ _ _ _ => (dv 2))) de_int))), fun ds Kt hl h => ?_⟩
  obtain ⟨e, S, t, ip, rfl, ⟨k, ps, hi, hn, hp⟩, h9, hat, hk⟩ := h
  simp only [List.map_cons, List.map_nil]
  rw [st_spot]
  walk_at "w"
  rw [hi]
  walk_at "w"
  refine ⟨fun i acc Γ => acc = natsD (hitsT S t i) ∧ Γ = [some (.fz e), some (.fz (.int t)), none, none], ⟨rfl, rfl⟩, ?_, ?_⟩
  · rintro i acc Γ hlt ⟨rfl, rfl⟩
    have hlt : i < S.length := by omega
    obtain ⟨k', h2⟩ := hp i hlt
    walk_at "w"
    refine ⟨rfl, ?_⟩
    walk_at "w"
    rw [h2]
    walk_at "w"
    refine ⟨⟨rfl, flat_ints _⟩, ?_⟩
    rw [inD_ints]
    walk_at "w"
    have hl := hits_len S t i
    refine ⟨fun h1 => ?_, fun h1 => ?_⟩
    · walk_at "w"
      refine ⟨lt_size (by rw [natsD_len]; omega), ?_, rfl⟩
      rw [hits_at, if_pos (of_decide_eq_true h1), ← natsD_app]
      rfl
    · walk_at "w"
      refine ⟨?_, rfl⟩
      rw [hits_at, if_neg (of_decide_eq_false h1), List.append_nil]
  · rintro acc Γ ⟨rfl, rfl⟩
    obtain ⟨r, er⟩ := hits_first hat S.length hat.1
    rw [hn, er]
    walk_at "w"
    rw [atI_ok (e := .none) (Int.le_refl _) (by rw [natsD_len, List.length_cons]; omega)]
    exact hk
theorem st_reached (a0 a1 a2 : O) : startG ["_law_rail_here", "_law_park", "_law_most", "_law_found", "_law_layer", "_law_later", "_law_here", "_law_cart", "_law_way", "_law_there"] [a0, a1, a2] = [some a0, some a1, some a2, none, none, none, none, none, none, none] := rfl
theorem can_reached (D : At K mg "_law_reached" s_reached ["_law_rail_here", "_law_park", "_law_most"]) (B : Blt mg) (c_hops : Can P w K mg base 3 "_law_hops" ["_law_rail_here", "_law_park"] (spP K 2 phHops)) (c_gone : Can P w K mg base 2 "_law_gone" ["_law_rail_here", "_law_park", "_law_cart", "_law_way"] (spP K 4 phGone)) : Can P w K mg base (4) "_law_reached" ["_law_rail_here", "_law_park", "_law_most"] (spP K 3 (phReached P w K)) := by
  refine D.canP sc_reached rfl fun f cdv A outer s H E hr => ⟨_, (ds_cons (ds_par 3 4 sc_reached.nd (da_cons (de_ndisp (hu_in hr) (dv 1) de_int) (da_cons (de_lst (da_cons (dv 1) da_nil)) da_nil)))
    (ds_cons (ds_frz [4] (ds_while (dt_w (dw_and (dt_ne hr (dv 4) (de_lst da_nil)) (dw_and1 (dt_le (de_b fit_lenN call_lenN rfl B.len (by decide +kernel) (da_cons (dv 3) da_nil)) (dv 2))))) (ds_cons (ds_set 5 sc_reached.nd (de_lst da_nil))
    (ds_cons (ds_for (di_seq (dv 4)) (dg_name 6 sc_reached.nd)
      (ds_single (ds_for (di_seq (de_canP c_hops hr (da_cons (dv 0) (da_cons (dv 6) da_nil)))) (dg_tup (n := 2) (dgs_cons (dg_name 7 sc_reached.nd) (dgs_cons (dg_name 8 sc_reached.nd) dgs_nil)))
      (ds_cons (ds_set 9 sc_reached.nd (de_canP c_gone hr (da_cons (dv 0) (da_cons (dv 6) (da_cons (dv 7) (da_cons (dv 8) da_nil))))))
    (ds_single (ds_if (dt_ndnin 3 (hu_in hr) (dv 9) (pv 3)) (ds_cons (ds_nput 3 (hu_in hr) (pv 3) (dv 9) (de_add (de_nix2 (P := P) (w := w) (K := K) rfl rfl rfl (hu_in hr) (dv 3) (dv 6)) de_int))
    (ds_single (ds_expr (de_append 5 (pv 5) (da_cons (dv 9) da_nil))))) ds_nil))))))
    (ds_single (ds_set 4 sc_reached.nd (dv 5)))))))
    (ds_single (ds_ret (de_if (dt_le (de_b fit_lenN call_lenN rfl B.len (by decide +kernel) (da_cons (dv 3) da_nil)) (dv 2)) (dv 3) de_non))))), fun ds Kt hl h => ?_⟩
  obtain ⟨L, S, most, B, rfl, hS, h5, hK, l1, hB0, hB, hk, hkn⟩ := h
  simp only [List.map_cons, List.map_nil]
  rw [st_reached]
  walk_at "b"
  refine ⟨stKs S, stK_data S, stK_depth S, fun ob => ?_⟩
  walk_at "b"
  refine ⟨fun m Γ => ∃ (ob : Obj) (d : Nat) (Fs : Fnd) (lay : List Std) (a5 a6 a7 a8 a9 : Option O), Bfs L S d Fs lay ∧ lay.Nodup ∧ m = 2 * (B + 1 - Fs.length) + (if lay = [] then 0 else 1) ∧ Γ = [some (.fz (lineD L)), some (.fz (stdD S)), some (.fz (.int (most : Nat))), some (ndO P w K ob (fndT Fs)), some (.fz (.list (lay.map stdD))), a5, a6, a7, a8, a9], ⟨_, ob, 0, _, [S], none, none, none, none, none, bfs_start hS, by simp, rfl, rfl⟩, ?_⟩
  rintro m Γ ⟨ob, d, Fs, lay, a5, a6, a7, a8, a9, hA, hnl, rfl, rfl⟩
  have hFB : Fs.length ≤ B := by
    have := hB (Fs.map (·.1)) hA.nodup fun S' h' => by
      obtain ⟨p, hp, rfl⟩ := List.mem_map.mp h'
      obtain ⟨_, r, T, _⟩ := hA.sound p hp
      exact ⟨r, T⟩
    rw [List.length_map] at this
    exact this
  have tour_of : ∀ S' ∈ lay, ∃ r, Tour L S S' r := fun S' h' => by
    obtain ⟨_, r, T, _⟩ := hA.sound _ ((hA.lay S').mp h')
    exact ⟨r, T⟩
  have hLB : lay.length ≤ B := hB lay hnl tour_of
  walk_at "b"
  refine ⟨⟨shaped_deep (deep_stds (by omega) fun S' h' => (tour_of S' h').elim fun r T => ⟨by have := T.perm.length_eq; omega, by have := T.scn.len; omega⟩), shaped_nil⟩, ?_⟩
  rw [eqv_nil]
  walk_at "b"
  have none_ok : ¬ (Fs.length : Int) ≤ (most : Int) → Kt (.fz .none) := fun z => hkn ⟨Fs.map (·.1), hA.nodup, fun S' h' => by
    obtain ⟨p, hp, rfl⟩ := List.mem_map.mp h'
    obtain ⟨_, r, T, _⟩ := hA.sound p hp
    exact ⟨r, T⟩, by rw [List.length_map]; omega⟩
  refine ⟨fun h1 => ?_, fun h1 => ?_⟩
  · have hne : lay ≠ [] := fun z => by
      subst z
      cases h1
    walk_at "b"
    refine ⟨3, _, ob, _, rfl, rfl, .inl rfl, ?_⟩
    rw [fnd_len]
    walk_at "b"
    refine ⟨fun h2 => ?_, fun h2 => ?_⟩
    · walk_at "b"
      refine ⟨fun i Γ => ∃ (ob : Obj) (Gs : Fnd) (a6 a7 a8 a9 : Option O), Bin L S d Fs lay Gs i 0 ∧ Γ = [some (.fz (lineD L)), some (.fz (stdD S)), some (.fz (.int (most : Nat))), some (ndO P w K ob (fndT (Fs ++ Gs))), some (.fz (.list (lay.map stdD))), some (.own ((Gs.map (·.1)).map stdD)), a6, a7, a8, a9], ⟨ob, [], _, _, _, _, bin_start hA, by rw [List.append_nil]; rfl⟩, ?_, ?_⟩
      · rintro i Γ hi ⟨ob, Gs, a6, a7, a8, a9, hB1, rfl⟩
        rw [List.length_map] at hi
        have hmem : lay.getD i [] ∈ lay := by
          rw [List.getD_eq_getElem?_getD, List.getElem?_eq_getElem hi]
          exact List.getElem_mem hi
        rw [show (fun i => (lay.map stdD).getD i .none) i = stdD (lay.getD i []) from getD_map (f := stdD) [] hi]
        obtain ⟨rr, TT⟩ := tour_of _ hmem
        have hin := (hA.lay _).mp hmem
        have li : (lay.getD i []).flatten.length ≤ 40 := by rw [TT.perm.length_eq]; exact l1
        walk_at "b"
        refine ⟨L, lay.getD i [], rfl, TT.scn.len, h5, hK, li, ?_⟩
        rw [hops_row]
        walk_at "b"
        refine ⟨fun j Γ => ∃ (ob : Obj) (Gs : Fnd) (a7 a8 a9 : Option O), Bin L S d Fs lay Gs i j ∧ Γ = [some (.fz (lineD L)), some (.fz (stdD S)), some (.fz (.int (most : Nat))), some (ndO P w K ob (fndT (Fs ++ Gs))), some (.fz (.list (lay.map stdD))), some (.own ((Gs.map (·.1)).map stdD)), some (.fz (stdD (lay.getD i []))), a7, a8, a9], ⟨ob, Gs, _, _, _, hB1, rfl⟩, ?_, ?_⟩
        · rintro j Γ hj ⟨ob, Gs, a7, a8, a9, hB2, rfl⟩
          rw [row_len] at hj
          have hpm : (hopsR L (lay.getD i [])).getD j (0, "left") ∈ hopsR L (lay.getD i []) := getD_mem2 _ hj
          obtain ⟨p1, p2, p3⟩ := hops_iff.mp hpm
          rw [show (rowD (hopsR L (lay.getD i []))).getD j .none = hopD ((hopsR L (lay.getD i [])).getD j (0, "left")).1 ((hopsR L (lay.getD i [])).getD j (0, "left")).2 from getD_map (f := fun p : Int × Str => hopD p.1 p.2) ((0 : Int), ("left" : Str)) hj]
          have hGj : (Fs ++ Gs).length ≤ B := by
            have := hB ((Fs ++ Gs).map (·.1)) hB2.nodup fun S' h' => by
              obtain ⟨p, hp, rfl⟩ := List.mem_map.mp h'
              rcases List.mem_append.mp hp with hp | hp
              · obtain ⟨_, r, T, _⟩ := hA.sound p hp
                exact ⟨r, T⟩
              · obtain ⟨_, r, T, _⟩ := hB2.new p hp
                exact ⟨r, T⟩
            rw [List.length_map] at this
            exact this
          have old := @bin_old L S d Fs Gs lay i j hB2
          have new := @bin_new L S d Fs Gs lay i j hA hB2 hi hj
          generalize (hopsR L (lay.getD i [])).getD j (0, "left") = q at p1 p2 p3 old new
          walk_at "b"
          refine ⟨L, lay.getD i [], q.1, q.2, rfl, TT.scn.len, h5, hK, li, p2, p1, p3, ?_⟩
          walk_at "b"
          refine ⟨_, ob, _, stKs (goP L (lay.getD i []) q), rfl, .inl rfl, stK_data _, stK_depth _, ?_⟩
          rw [fnd_has hB2.nodup]
          walk_at "b"
          refine ⟨fun h3 => ?_, fun h3 => ?_⟩
          · have hnew : goP L (lay.getD i []) q ∉ (Fs ++ Gs).map (·.1) := by simpa using h3
            walk_at "b"
            refine ⟨3, _, ob, _, stKs (lay.getD i []), _, rfl, rfl, .inl rfl, stK_data _, stK_depth _, fnd_some hB2.nodup (List.mem_append_left _ hin), ?_⟩
            walk_at "b"
            refine ⟨⟨_, ob, _, rfl, .inl rfl⟩, ?_⟩
            walk_at "b"
            refine ⟨ob, _, stKs (goP L (lay.getD i []) q), rfl, stK_data _, stK_depth _, ?_, fun ob' => ?_⟩
            · rw [fnd_len]
              exact Nat.lt_of_lt_of_le (show (Fs ++ Gs).length < 100000 by omega) (big_size (by decide))
            rw [show ((d : Nat) : Int) + 1 = ((d + 1 : Nat) : Int) from rfl, fnd_put hnew]
            walk_at "b"
            refine ⟨?_, ?_⟩
            · rw [List.length_map, List.length_map]
              rw [List.length_append] at hGj
              exact Nat.lt_of_lt_of_le (show Gs.length < 100000 by omega) (big_size (by decide))
            rw [List.append_assoc]
            rw [show List.map stdD (List.map (fun x => x.fst) Gs) ++ [stdD (goneT L (lay.getD i []) (plT (lay.getD i []) q.fst) q.fst q.snd)] = List.map stdD (List.map (fun x => x.fst) (Gs ++ [(goP L (lay.getD i []) q, d + 1)])) from by rw [List.map_append, List.map_append]; rfl]
            exact ⟨ob', _, _, _, _, new hnew, rfl⟩
          · have hold : goP L (lay.getD i []) q ∈ (Fs ++ Gs).map (·.1) := by simpa using h3
            walk_at "b"
            exact ⟨ob, Gs, _, _, _, old hold, rfl⟩
        · rintro Γ ⟨ob, Gs, a7, a8, a9, hB2, rfl⟩
          rw [row_len] at hB2
          walk_at "b"
          exact ⟨ob, Gs, _, _, _, _, bin_next hB2 (Nat.le_refl _), rfl⟩
      · rintro Γ ⟨ob, Gs, a6, a7, a8, a9, hB1, rfl⟩
        rw [List.length_map] at hB1
        have hE := bin_end hS hA hB1 (Nat.le_refl _)
        have hGl : (Fs ++ Gs).length ≤ B := by
          have := hB ((Fs ++ Gs).map (·.1)) hE.nodup fun S' h' => by
            obtain ⟨p, hp, rfl⟩ := List.mem_map.mp h'
            obtain ⟨_, r, T, _⟩ := hE.sound p hp
            exact ⟨r, T⟩
          rw [List.length_map] at this
          exact this
        have hnl2 : (Gs.map (·.1)).Nodup := by
          have := hB1.nodup
          rw [List.map_append] at this
          exact (List.nodup_append.mp this).2.1
        walk_at "b"
        refine ⟨_, ?_, ob, d + 1, Fs ++ Gs, Gs.map (·.1), _, _, _, _, _, hE, hnl2, rfl, rfl⟩
        rw [if_neg hne]
        rw [List.length_append] at hGl ⊢
        cases Gs with
        | nil =>
          rw [List.map_nil, if_pos rfl, List.length_nil]
          omega
        | cons g Gs =>
          rw [List.length_cons] at hGl ⊢
          split <;> omega
    · walk_at "b"
      refine ⟨3, _, ob, _, rfl, rfl, .inl rfl, ?_⟩
      rw [fnd_len]
      walk_at "b"
      refine ⟨fun z => absurd z (by rw [h2]; exact Bool.false_ne_true), fun _ => ?_⟩
      walk_at "b"
      exact none_ok (of_decide_eq_false h2)
  · have he : lay = [] := by
      cases lay with
      | nil => rfl
      | cons x l => cases h1
    subst he
    walk_at "b"
    refine ⟨3, _, ob, _, rfl, rfl, .inl rfl, ?_⟩
    rw [fnd_len]
    walk_at "b"
    refine ⟨fun z => ?_, fun z => ?_⟩
    · walk_at "b"
      exact hk Fs ob (bfs_all hS hA) (by have := of_decide_eq_true z; omega)
    · walk_at "b"
      exact none_ok (of_decide_eq_false z)
end
end Kx
end
section
set_option maxHeartbeats 4000000
namespace Kx
open PySem PySem.Spec PyProof.Rows L2 Dl
local macro_rules | `(tactic| walk_at "dd") => `(tactic| simp only [dC, dVar, dBin, dTest, onB, dNotT, dAndT, dOrT, dAndV, dOrV, dNotV, dIf, dNil, dCons, dCB, dSeqI, dRng1, dRng2, dEnI, dZpI, escs, esc, fix1, fixN, mov, vw, vk, see, seeAll, dNext, dSeq, dBreak, dCont, dExpr, dRet, dRetN, dIfS, dSet, dMulti, putN, gdName, gdNil, gdCons, gdTup, dFor, dWhile, dCallP, dCallV, vws, isScal, onBox, dCallB, dTup, dLst, dLstO, dIx, onI2, dNegI, dAdd2, addD, dEq2, eqK, dIn2, dLen, onI1, onI12, dInt1, onInts, dToL, dToT, onBs, dMeth, isOwn, rhoApp, rhoPopAt, dStore, dRep2, dNoP, dPart, dSlice, wipeG, dYes, dLc, dIsi, dIsNT, dIsN, nonOf, dAug, dUnp, dKwP, pick, dNewD, dUpd, onPairs, dSortD, onIntsA, onOlAt, dAppT, dCallS, dLenS, dIxS, dLc2, lcTurn, List.getD_cons_zero, List.getD_cons_succ, Nat.zero_le, zl1, zl2, zl3, zl4, zl5, zl6, zl7, zl8, zl9, zl10, zl11, ls1, ls2, ls3, ls4, eq_self, Nat.reduceAdd, Nat.reduceEqDiff, itemsOf_list, itemsOf_tuple, Dl.get, Dl.put, List.length_cons, List.length_nil, List.map_cons, List.map_nil, id, true_and, and_true, true_implies, forall_const, Bool.not_true, Bool.not_false, reduceCtorEq, false_implies, Nat.zero_add, ite_true, ite_false, Bool.true_eq_false, Bool.false_eq_true])
local macro_rules | `(tactic| walk_at "w") => `(tactic| conv => whnf)
local macro_rules | `(tactic| walk_at "cb") => `(tactic| ((conv => whnf); refine ⟨rfl, rfl, Nat.zero_lt_succ _, ?_⟩; (conv => whnf)))
local macro_rules | `(tactic| walk_at "cp") => `(tactic| ((conv => whnf); refine ⟨rfl, ?_⟩; (conv => whnf)))
local macro_rules | `(tactic| walk_at "a") => `(tactic| ((conv => whnf); repeat (first | (refine ⟨leS rfl, ?_⟩; (conv => whnf)) | (refine ⟨trivial, ?_⟩; (conv => whnf)) | (refine ⟨rfl, ?_⟩; (conv => whnf)) | (refine ⟨Nat.zero_lt_succ _, ?_⟩; (conv => whnf)) | (refine ⟨(show (2 : Nat) < _ from ltN rfl), ?_⟩; (conv => whnf)) | (refine ⟨(show Dl.inR _ from (by unfold Dl.inR; omega)), ?_⟩; (conv => whnf)) | (refine ⟨fun _ => ?_, fun z => Bool.noConfusion (show true = false from z)⟩; (conv => whnf)) | (refine ⟨fun z => Bool.noConfusion (show false = true from z), fun _ => ?_⟩; (conv => whnf))); try (first | refine norm_ex (by dsimp only [Dl.put, Dl.wipeG, Dl.putN, puts]) ?_ | refine norm_lc (by dsimp only [Dl.put, Dl.wipeG, Dl.putN, puts]) ?_)))
local macro_rules | `(tactic| walk_at "b") => `(tactic| ((try dsimp only [puts, Dl.put, Dl.putN, Dl.wipeG]); walk_at "a"))
local macro_rules | `(tactic| walk_at "d") => `(tactic| ((walk_at "b"); dsimp only))
section
variable {P : Program} {w : World} {K : PySem.W.Frag} {mg : Str → Option Value} {base : Heap}
theorem st_order (a0 a1 : O) : startG ["line", "standing", "held", "train"] [a0, a1] = [some a0, some a1, none, none] := rfl
theorem can_order (D : At K mg "order" s_order ["line", "standing"]) (B : Blt mg) : Can P w K mg base (1) "order" ["line", "standing"] (spP K 2 phOrder) := by
  refine D.canP sc_order rfl fun f cdv A outer s H E hr => ⟨_, (ds_single (ds_ret (de_lc2 sc_order.nd (vs1 := [3]) (di_seq (dv 1)) (blkOk_by (own := [("held", 2), ("train", 3)]) (by rfl)) (fun _ _ _ _ _ => (dg_name 2 sc_order.nd)) (fun _ _ _ _ _ => dts_nil) (fun _ _ _ _ _ => (di_seq (dv 2))) (fun _ _ _ _ _ => (dg_name 3 sc_order.nd)) (fun _ _ _ _ _ => dts_nil) (fun _ _ _ _ _ => (dv 3))))), fun ds Kt hl h => ?_⟩
  obtain ⟨d, e, S, rfl, ⟨k, ps, hi, hn, hp⟩, h9, hk⟩ := h
  simp only [List.map_cons, List.map_nil]
  rw [st_order]
  try walk_at "dd"
  simp only [hi]
  refine ⟨fun i acc Γ => acc = (S.take i).flatten.map .int ∧ Γ = [some (.fz d), some (.fz e), none, none], ⟨rfl, rfl⟩, ?_, ?_⟩
  · rintro i acc Γ hlt ⟨rfl, rfl⟩
    try walk_at "dd"
    have hlt : i < S.length := by omega
    obtain ⟨k', h2⟩ := hp i hlt
    simp only [h2]
    try walk_at "dd"
    refine ⟨fun j acc Γ => acc = ((S.take i).flatten ++ (S.getD i []).take j).map .int ∧ Γ = [some (.fz d), some (.fz e), some (.fz (ps.getD i .none)), none], ⟨by simp, rfl⟩, ?_, ?_⟩
    · rintro j acc Γ hj ⟨rfl, rfl⟩
      rw [List.length_map] at hj
      rw [getD_map_int hj]
      try walk_at "dd"
      have hf := flat_len hlt j
      refine ⟨lt_size (by rw [List.length_map]; omega), ?_⟩
      rw [take_at 0 hj, ← List.append_assoc]
      simp
    · rintro acc Γ ⟨rfl, rfl⟩
      rw [List.length_map, List.take_length, ← flat_at hlt]
      try walk_at "dd"
  · rintro acc Γ ⟨rfl, rfl⟩
    rw [hn, List.take_length]
    exact hk
theorem st_blocks (a0 a1 : O) : startG ["line", "many", "joined", "found", "first", "at"] [a0, a1] = [some a0, some a1, none, none, none, none] := rfl
theorem can_blocks (D : At K mg "blocks" s_blocks ["line", "many"]) (B : Blt mg) (c_joints : Can P w K mg base 4 "joints" ["line", "many"] (spP K 2 phJoints)) : Can P w K mg base (5) "blocks" ["line", "many"] (spP K 2 phBlocks) := by
  refine D.canP sc_blocks rfl fun f cdv A outer s H E hr => ⟨_, (ds_cons (ds_set 2 sc_blocks.nd (de_canP c_joints hr (da_cons (dv 0) (da_cons (dv 1) da_nil))))
    (ds_cons (ds_set 3 sc_blocks.nd (de_lst da_nil))
    (ds_cons (ds_set 4 sc_blocks.nd de_int)
    (ds_cons (ds_for (di_range1 rfl B.range (da_cons (dv 1) da_nil)) (dg_name 5 sc_blocks.nd)
      (ds_single (ds_if (dt_nin (dv 5) (dv 2)) (ds_cons (ds_expr (de_append 3 (pv 3) (da_cons (de_tup (da_cons (dv 4) (da_cons (dv 5) da_nil))) da_nil)))
    (ds_single (ds_set 4 sc_blocks.nd (de_add (dv 5) de_int)))) ds_nil)))
    (ds_single (ds_ret (dv 3))))))), fun ds Kt hl h => ?_⟩
  obtain ⟨d, L, m, rfl, hL, h5, hK, hm, hk⟩ := h
  simp only [List.map_cons, List.map_nil]
  rw [st_blocks]
  walk_at "w"
  refine ⟨rfl, d, L, m, rfl, hL, h5, hK, hm, ?_⟩
  walk_at "w"
  refine ⟨Nat.zero_le _, ?_⟩
  walk_at "w"
  refine ⟨by unfold Dl.inR; omega, fun i Γ => ∃ a : Option O, Γ = [some (.fz d), some (.fz (.int m)), some (.own (natsD (jointsT L m))), some (.own ((blkF (jnT L m) i).1.map pairD)), some (.fz (.int ((blkF (jnT L m) i).2 : Nat))), a], ?_, ?_, ?_⟩
  · exact ⟨none, rfl⟩
  · rintro i Γ hi ⟨a, rfl⟩
    have hi2 : i < m := by omega
    have hbl := blkF_le (jnT L m) i
    walk_at "w"
    refine ⟨⟨rfl, flat_nats _⟩, ?_⟩
    have e0 : (fun i : Nat => PyData.int (0 + (i : Int))) i = PyData.int i := congrArg PyData.int (Int.zero_add _)
    rw [e0, inD_nats]
    walk_at "w"
    refine ⟨fun h1 => ?_, fun h1 => ?_⟩
    · walk_at "w"
      refine ⟨trivial, ?_⟩
      walk_at "w"
      refine ⟨leS rfl, ?_⟩
      walk_at "w"
      refine ⟨lt_size (by rw [List.length_map]; omega), ?_⟩
      walk_at "w"
      have hj : jnT L m i = false := by simpa [jnT] using h1
      have e1 : blkF (jnT L m) (i + 1) = ((blkF (jnT L m) i).1 ++ [((blkF (jnT L m) i).2, i)], i + 1) := by
        conv => lhs; unfold blkF
        rw [hj]
        rfl
      rw [e1, List.map_append]
      exact ⟨_, rfl⟩
    · walk_at "w"
      have hj : jnT L m i = true := by simpa [jnT] using h1
      have e1 : blkF (jnT L m) (i + 1) = blkF (jnT L m) i := by
        conv => lhs; unfold blkF
        rw [hj]
        rfl
      rw [e1]
      exact ⟨_, rfl⟩
  · rintro Γ ⟨a, rfl⟩
    walk_at "w"
    rw [Int.toNat_natCast]
    exact hk
theorem st_places_of (a0 a1 a2 : O) : startG ["line", "standing", "train", "block", "reached", "place", "found"] [a0, a1, a2] = [some a0, some a1, some a2, none, none, none, none] := rfl
theorem can_places_of (D : At K mg "places_of" s_places_of ["line", "standing", "train"]) (B : Blt mg) {cNoTrain : Addr} (c_block_of : CanX P w K mg base 7 "block_of" ["line", "standing", "train"] (spX K 3 (phBlockOf cNoTrain))) (c_blocks_at : Can P w K mg base 6 "blocks_at" ["line", "many"] (spP K 2 phBlocksAt)) (c_order : Can P w K mg base 1 "order" ["line", "standing"] (spP K 2 phOrder)) : CanXW P w K mg base (8) "places_of" ["line", "standing", "train"] ["train", "standing", "line"] [2, 1, 0] (spX K 3 (phPlacesOf cNoTrain)) := by
  refine D.canXW ["train", "standing", "line"] [2, 1, 0] (fun _ _ _ _ _ _ us hl => match us, hl with | [_, _, _], _ => rfl) sc_places_of rfl fun f cdv A outer s H E hr => ?_
  have tk := takes_of (X := cxOf (L2.CX P w) P w K mg base ["line", "standing", "train", "block", "reached", "place", "found"] "places_of" (defScope s_places_of) f cdv A outer s H E) (E := E) rfl rfl rfl rfl
  exact ⟨_, (dx_cons (dx_set 3 sc_places_of.nd (dxe_call c_block_of tk hr (da_cons (dv 0) (da_cons (dv 1) (da_cons (dv 2) da_nil)))))
    (dx_cons (dx_of (ds_set 4 sc_places_of.nd (de_canP c_blocks_at hr (da_cons (dv 0) (da_cons (de_b fit_len call_len_seq rfl B.len (by decide +kernel) (da_cons (de_canP c_order hr (da_cons (dv 0) (da_cons (dv 1) da_nil))) da_nil)) da_nil)))))
    (dx_single (dx_of (ds_ret (de_lc sc_places_of.nd (di_enum rfl B.enumerate (da_cons (dv 4) da_nil)) (blkOk_by (own := [("place", 5), ("found", 6)]) (by rfl)) (fun _ _ _ _ _ => (dg_tup (n := 2) (dgs_cons (dg_name 5 sc_places_of.nd) (dgs_cons (dg_name 6 sc_places_of.nd) dgs_nil)))) (fun _ _ _ _ _ => (dts_one (dt_in (dv 3) (dv 6)))) (fun _ _ _ _ _ => (dv 5)))))))), fun ds Kt Ke hl h => by
    obtain ⟨d, e, L, S, t, rfl, hL, hS, h5, hK, h9, hk, hke⟩ := h
    simp only [List.map_cons, List.map_nil]
    rw [st_places_of]
    walk_at "w"
    refine ⟨rfl, d, e, L, S, t, rfl, hL, hS, h5, hK, h9, fun b hb => ?_, hke⟩
    walk_at "a"
    refine ⟨d, e, S, rfl, hS, h9, ?_⟩
    walk_at "a"
    refine ⟨d, L, S.flatten.length, by rw [List.length_map], hL, h5, hK, h9, ?_⟩
    walk_at "a"
    refine lc_at (fun i => natsD (placesN L S.flatten.length b i)) rfl ⟨?_, ?_⟩
    · rintro i acc Γ hi ⟨rfl, rfl⟩
      rw [List.length_map, List.length_range] at hi
      have ej : ((List.range L.length).map fun i => PyData.list (natsD (allowT L S.flatten.length i))).getD i PyData.none = .list (natsD (allowT L S.flatten.length i)) := (getD_map (f := fun i => PyData.list (natsD (allowT L S.flatten.length i))) 0 (by rw [List.length_range]; exact hi)).trans (by rw [List.getD_eq_getElem?_getD, List.getElem?_range hi]; rfl)
      have hpl := places_len L S.flatten.length b i
      walk_at "w"
      refine ⟨rfl, ?_⟩
      rw [ej]
      walk_at "w"
      refine ⟨⟨rfl, flat_nats _⟩, ?_⟩
      rw [inD_nats]
      have ha := places_at L S.flatten.length b i
      refine ⟨fun h1 => ?_, fun h1 => ?_⟩
      · walk_at "a"
        rw [if_pos (of_decide_eq_true h1)] at ha
        refine ⟨lt_size (by rw [natsD_len]; omega), ?_, rfl⟩
        rw [ha, ← natsD_app]
        rfl
      · walk_at "a"
        rw [if_neg (of_decide_eq_false h1), List.append_nil] at ha
        exact ⟨by rw [ha], rfl⟩
    · rintro acc Γ ⟨rfl, rfl⟩
      walk_at "w"
      rw [List.length_map, List.length_range]
      exact hk b hb⟩
theorem st_same_ (a0 a1 : O) : startG ["_law_found", "_law_due", "_law_a", "_law_b"] [a0, a1] = [some a0, some a1, none, none] := rfl
theorem can_same_ {n : Nat} {ph : List PyData → (O → Prop) → Prop} (D : At K mg "_law_same" s_same ["_law_found", "_law_due"]) (B : Blt mg) (hph : match n with | 0 => True | n + 1 => ph = phSame n) (c_same : Can P w K mg base n "_law_same" ["_law_found", "_law_due"] (spP K 2 ph)) : Can P w K mg base ((n + 1)) "_law_same" ["_law_found", "_law_due"] (spP K 2 (phSame n)) := by
  refine D.canP sc_same rfl fun f cdv A outer s H E hr => ⟨_, (ds_cons (ds_if (dt_val (de_isi2 "list" "tuple" isi_list isi_tuple (dv 1) (by rfl) B.isinstance (by rfl) B.list (by decide +kernel) (by rfl) B.tuple (by decide +kernel))) (ds_cons (ds_if (dt_w (dw_or (dt_ne hr (de_isi "list" isi_list (dv 0) (by rfl) B.isinstance (by rfl) B.list (by decide +kernel)) (de_isi "list" isi_list (dv 1) (by rfl) B.isinstance (by rfl) B.list (by decide +kernel))) (dw_or1 (dt_ne hr (de_isi "tuple" isi_tuple (dv 0) (by rfl) B.isinstance (by rfl) B.tuple (by decide +kernel)) (de_isi "tuple" isi_tuple (dv 1) (by rfl) B.isinstance (by rfl) B.tuple (by decide +kernel)))))) (ds_single (ds_ret de_bl)) ds_nil)
    (ds_single (ds_ret (de_and (de_eq hr (de_b fit_len call_len_seq rfl B.len (by decide +kernel) (da_cons (dv 0) da_nil)) (de_b fit_len call_len_seq rfl B.len (by decide +kernel) (da_cons (dv 1) da_nil))) (de_one (de_b fit_all (cr_all rfl) rfl B.all (by decide +kernel) (da_cons (de_lc sc_same.nd (di_zip rfl B.zip (da_cons (dv 0) (da_cons (dv 1) da_nil))) (blkOk_by (own := [("_law_a", 2), ("_law_b", 3)]) (by rfl)) (fun _ _ _ _ _ => (dg_tup (n := 2) (dgs_cons (dg_name 2 sc_same.nd) (dgs_cons (dg_name 3 sc_same.nd) dgs_nil)))) (fun _ _ _ _ _ => dts_nil) (fun _ _ _ _ _ => (de_canV c_same hr (da_cons (dv 2) (da_cons (dv 3) da_nil)) (Nat.le_refl _)))) da_nil))))))) ds_nil)
    (ds_cons (ds_if (dt_w (dw_or (dt_isN (dv 1)) (dw_or1 (dt_val (de_isi2 "bool" "str" isi_bool isi_str (dv 1) (by rfl) B.isinstance (by rfl) B.bool (by decide +kernel) (by rfl) B.str (by decide +kernel)))))) (ds_single (ds_ret (de_and (de_eq hr (dv 0) (dv 1)) (de_and (de_eq hr (de_isi "bool" isi_bool (dv 0) (by rfl) B.isinstance (by rfl) B.bool (by decide +kernel)) (de_isi "bool" isi_bool (dv 1) (by rfl) B.isinstance (by rfl) B.bool (by decide +kernel))) (de_one (de_eq hr (de_isN (dv 0)) (de_isN (dv 1)))))))) ds_nil)
    (ds_single (ds_ret (de_and (de_isi "int" isi_int (dv 0) (by rfl) B.isinstance (by rfl) B.int (by decide +kernel)) (de_and (de_not (de_isi "bool" isi_bool (dv 0) (by rfl) B.isinstance (by rfl) B.bool (by decide +kernel))) (de_one (de_eq hr (dv 0) (dv 1))))))))), fun ds Kt hl h => ?_⟩
  obtain ⟨d, rfl, hd, hk⟩ := h
  simp only [List.map_cons, List.map_nil]
  rw [st_same_]
  walk_at "w"
  refine ⟨deep_noDict hd, ?_⟩
  cases hd with
  | int _ i =>
    walk_at "w"
    refine ⟨fun z => (by cases z), fun _ => ?_⟩
    walk_at "w"
    refine ⟨fun z => (by cases z), fun _ => ?_⟩
    walk_at "w"
    refine ⟨trivial, ?_⟩
    walk_at "w"
    refine ⟨fun z => (by cases z), fun _ => ?_⟩
    walk_at "w"
    refine ⟨trivial, ?_⟩
    walk_at "w"
    refine ⟨fun _ => ?_, fun z => by cases z⟩
    walk_at "w"
    refine ⟨trivial, ?_⟩
    walk_at "w"
    refine ⟨fun _ => ?_, fun z => by cases z⟩
    walk_at "w"
    rw [decide_eq_true rfl]
    exact hk
  | bool _ i =>
    walk_at "w"
    refine ⟨fun z => (by cases z), fun _ => ?_⟩
    walk_at "w"
    refine ⟨fun z => (by cases z), fun _ => ?_⟩
    walk_at "w"
    refine ⟨trivial, ?_⟩
    walk_at "w"
    refine ⟨fun _ => ?_, fun z => (by cases z)⟩
    walk_at "w"
    refine ⟨⟨rfl, rfl⟩, ?_⟩
    rw [show PyData.eqv (.bool i) (.bool i) = true from by cases i <;> rfl]
    walk_at "w"
    refine ⟨fun _ => ?_, fun z => (by cases z)⟩
    walk_at "w"
    refine ⟨trivial, ?_⟩
    walk_at "w"
    refine ⟨trivial, ?_⟩
    walk_at "w"
    refine ⟨⟨rfl, rfl⟩, ?_⟩
    walk_at "w"
    refine ⟨fun _ => ?_, fun z => (by cases (show true = false from z))⟩
    walk_at "w"
    refine ⟨⟨rfl, rfl⟩, ?_⟩
    walk_at "w"
    exact hk
  | str _ i hi =>
    walk_at "w"
    refine ⟨fun z => (by cases z), fun _ => ?_⟩
    walk_at "w"
    refine ⟨fun z => (by cases z), fun _ => ?_⟩
    walk_at "w"
    refine ⟨trivial, ?_⟩
    walk_at "w"
    refine ⟨fun _ => ?_, fun z => (by cases z)⟩
    walk_at "w"
    refine ⟨⟨hi, hi⟩, ?_⟩
    rw [decide_eq_true rfl]
    walk_at "w"
    refine ⟨fun _ => ?_, fun z => (by cases z)⟩
    walk_at "w"
    refine ⟨trivial, ?_⟩
    walk_at "w"
    refine ⟨trivial, ?_⟩
    walk_at "w"
    refine ⟨⟨rfl, rfl⟩, ?_⟩
    walk_at "w"
    refine ⟨fun _ => ?_, fun z => (by cases (show true = false from z))⟩
    walk_at "w"
    refine ⟨⟨rfl, rfl⟩, ?_⟩
    walk_at "w"
    exact hk
  | none _ =>
    walk_at "w"
    refine ⟨fun z => (by cases z), fun _ => ?_⟩
    walk_at "w"
    refine ⟨fun _ => ?_, fun z => (by cases z)⟩
    walk_at "w"
    refine ⟨fun _ => ?_, fun z => (by cases z)⟩
    walk_at "w"
    refine ⟨⟨rfl, rfl⟩, ?_⟩
    rw [show PyData.eqv .none .none = true from rfl]
    walk_at "w"
    refine ⟨fun _ => ?_, fun z => (by cases z)⟩
    walk_at "w"
    refine ⟨trivial, ?_⟩
    walk_at "w"
    refine ⟨trivial, ?_⟩
    walk_at "w"
    refine ⟨⟨rfl, rfl⟩, ?_⟩
    walk_at "w"
    refine ⟨fun _ => ?_, fun z => (by cases (show true = false from z))⟩
    walk_at "w"
    refine ⟨⟨rfl, rfl⟩, ?_⟩
    walk_at "w"
    exact hk
  | list n' ds hl9 hd =>
    walk_at "w"
    refine ⟨fun _ => ?_, fun z => by cases z⟩
    walk_at "w"
    refine ⟨trivial, ?_⟩
    walk_at "w"
    refine ⟨trivial, ?_⟩
    walk_at "w"
    refine ⟨⟨rfl, rfl⟩, ?_⟩
    walk_at "w"
    refine ⟨fun z => (by cases (show false = true from z)), fun _ => ?_⟩
    walk_at "w"
    refine ⟨trivial, ?_⟩
    walk_at "w"
    refine ⟨trivial, ?_⟩
    walk_at "w"
    refine ⟨⟨rfl, rfl⟩, ?_⟩
    walk_at "w"
    refine ⟨fun z => (by cases (show false = true from z)), fun _ => ?_⟩
    walk_at "w"
    refine ⟨fun _ => ?_, fun z => absurd z (by simp)⟩
    walk_at "w"
    have hph : ph = phSame n' := hph
    subst hph
    refine ⟨fun i acc Γ => acc = List.replicate i (.bool true) ∧ Γ = [some (.fz (.list ds)), some (.fz (.list ds)), none, none], ⟨rfl, rfl⟩, ?_, ?_⟩
    · rintro i acc Γ hi ⟨rfl, rfl⟩
      rw [Nat.min_self] at hi
      walk_at "w"
      refine ⟨rfl, ?_⟩
      walk_at "w"
      refine ⟨fun _ => ?_, fun z => by cases z⟩
      walk_at "cp"
      refine ⟨_, rfl, hd _ (getD_mem hi), ⟨trivial, ?_⟩⟩
      walk_at "w"
      exact ⟨lt_size5 (by rw [List.length_replicate]; omega), rep_snoc _ _, rfl⟩
    · rintro acc Γ ⟨rfl, rfl⟩
      rw [Nat.min_self]
      walk_at "w"
      refine ⟨List.replicate ds.length true, by rw [List.map_replicate], ?_⟩
      walk_at "w"
      rw [all_rep]
      exact hk
  | tuple n' ds hl9 hd =>
    walk_at "w"
    refine ⟨fun _ => ?_, fun z => by cases z⟩
    walk_at "w"
    refine ⟨trivial, ?_⟩
    walk_at "w"
    refine ⟨trivial, ?_⟩
    walk_at "w"
    refine ⟨⟨rfl, rfl⟩, ?_⟩
    walk_at "w"
    refine ⟨fun z => (by cases (show false = true from z)), fun _ => ?_⟩
    walk_at "w"
    refine ⟨trivial, ?_⟩
    walk_at "w"
    refine ⟨trivial, ?_⟩
    walk_at "w"
    refine ⟨⟨rfl, rfl⟩, ?_⟩
    walk_at "w"
    refine ⟨fun z => (by cases (show false = true from z)), fun _ => ?_⟩
    walk_at "w"
    refine ⟨fun _ => ?_, fun z => absurd z (by simp)⟩
    walk_at "w"
    have hph : ph = phSame n' := hph
    subst hph
    refine ⟨fun i acc Γ => acc = List.replicate i (.bool true) ∧ Γ = [some (.fz (.tuple ds)), some (.fz (.tuple ds)), none, none], ⟨rfl, rfl⟩, ?_, ?_⟩
    · rintro i acc Γ hi ⟨rfl, rfl⟩
      rw [Nat.min_self] at hi
      walk_at "w"
      refine ⟨rfl, ?_⟩
      walk_at "w"
      refine ⟨fun _ => ?_, fun z => by cases z⟩
      walk_at "cp"
      refine ⟨_, rfl, hd _ (getD_mem hi), ⟨trivial, ?_⟩⟩
      walk_at "w"
      exact ⟨lt_size5 (by rw [List.length_replicate]; omega), rep_snoc _ _, rfl⟩
    · rintro acc Γ ⟨rfl, rfl⟩
      rw [Nat.min_self]
      walk_at "w"
      refine ⟨List.replicate ds.length true, by rw [List.map_replicate], ?_⟩
      walk_at "w"
      rw [all_rep]
      exact hk
theorem can_same (D : At K mg "_law_same" s_same ["_law_found", "_law_due"]) (B : Blt mg) : ∀ n : Nat, Can P w K mg base (n + 1) "_law_same" ["_law_found", "_law_due"] (spP K 2 (phSame n))
  | 0 => can_same_ D B trivial (can_void D)
  | n + 1 => can_same_ D B rfl (can_same D B n)
theorem st_total (a0 : O) : startG ["_law_rail_here", "_law_label", "_law_top"] [a0] = [some a0, none, none] := rfl
theorem can_total (D : At K mg "_law_total" s_total ["_law_rail_here"]) (B : Blt mg) : Can P w K mg base (1) "_law_total" ["_law_rail_here"] (spP K 1 phCap) := by
  refine D.canP sc_total rfl fun f cdv A outer s H E hr => ⟨_, (ds_single (ds_ret (de_b fit_sumA (cr_sumA rfl) rfl B.sum (by decide +kernel) (da_cons (de_lc sc_total.nd (di_seq (dv 0)) (blkOk_by (own := [("_law_label", 1), ("_law_top", 2)]) (by rfl)) (fun _ _ _ _ _ => (dg_tup (n := 2) (dgs_cons (dg_name 1 sc_total.nd) (dgs_cons (dg_name 2 sc_total.nd) dgs_nil)))) (fun _ _ _ _ _ => dts_nil) (fun _ _ _ _ _ => (dv 2))) da_nil)))), fun ds Kt hl h => ?_⟩
  obtain ⟨d, L, rfl, ⟨k, ps, hi, hn, hp⟩, h5, hk⟩ := h
  simp only [List.map_cons, List.map_nil]
  rw [st_total]
  walk_at "dd"
  simp only [hi]
  refine ⟨fun i acc Γ => acc = ((L.take i).map (·.2)).map .int ∧ Γ = [some (.fz d), none, none], ?_, ?_, ?_⟩
  · exact ⟨rfl, rfl⟩
  · rintro i acc Γ hlt ⟨rfl, rfl⟩
    try walk_at "dd"
    obtain ⟨k', h2⟩ := hp i (by omega)
    simp only [h2]
    try walk_at "dd"
    refine ⟨lt_size (by simp; omega), ?_⟩
    rw [take_at z0 (by omega)]
    simp
  · rintro acc Γ ⟨rfl, rfl⟩
    try walk_at "dd"
    refine ⟨true, L.map (·.2), ?_, by unfold caps at hk; exact hk⟩
    rw [hn, List.take_length]
theorem st_count (a0 a1 a2 : O) : startG ["_law_box_here", "_law_rail_here", "_law_most", "_law_full"] [a0, a1, a2] = [some a0, some a1, some a2, none] := rfl
theorem can_count (D : At K mg "_law_count" s_count ["_law_box_here", "_law_rail_here", "_law_most"]) (B : Blt mg) (c_take : Can P w K mg base 1 "_law_take" ["_law_box_here", "_law_span"] (spB K 1 phTake)) (c_total : Can P w K mg base 1 "_law_total" ["_law_rail_here"] (spP K 1 phCap)) : Can P w K mg base (2) "_law_count" ["_law_box_here", "_law_rail_here", "_law_most"] (spB K 2 phCount) := by
  refine D.canB sc_count rfl fun f cdv A outer s H E hr => ⟨_, (ds_cons (ds_set 3 sc_count.nd (de_b fit_min2 (call_min2 rfl) rfl B.min (by decide +kernel) (da_cons (dv 2) (da_cons (de_canP c_total hr (da_cons (dv 1) da_nil)) da_nil))))
    (ds_single (ds_ret (de_if (dt_eq hr (de_canB c_take hr (da_cons (dv 0) (da_cons de_int da_nil))) de_int) (de_canB c_take hr (da_cons (dv 0) (da_cons (de_add (dv 3) de_int) da_nil))) (de_subI (dv 3) (de_b fit_min2 (call_min2 rfl) rfl B.min (by decide +kernel) (da_cons (dv 3) (da_cons (de_canB c_take hr (da_cons (dv 0) (da_cons de_int da_nil))) da_nil)))))))), fun p m ds Kt hl h => ?_⟩
  obtain ⟨d, L, most, rfl, hL, h5, hK, m0, m1, hm, hk⟩ := h
  have hcap := caps_nonneg hK
  simp only [List.map_cons, List.map_nil]
  rw [st_count]
  walk_at "w"
  refine ⟨rfl, d, L, rfl, hL, h5, ?_⟩
  walk_at "w"
  have hf : 0 ≤ (if caps L < most then caps L else most) ∧ (if caps L < most then caps L else most) ≤ most ∧ (if caps L < most then caps L else most) ≤ caps L := by split <;> omega
  generalize (if caps L < most then caps L else most) = full at hf
  refine ⟨rfl, rfl, Nat.zero_lt_succ _, 3, rfl, by omega, by omega, by omega, fun r r0 r1 => ?_⟩
  walk_at "w"
  refine ⟨fun h1 => ?_, fun h1 => ?_⟩
  · walk_at "cb"
    refine ⟨full + 1, rfl, by omega, by omega, by omega, fun q q0 q1 => ?_⟩
    walk_at "w"
    refine ⟨_, rfl, ?_⟩
    have := hk q.toNat (by omega) (by omega)
    rw [Int.toNat_of_nonneg q0] at this
    exact this
  · walk_at "cb"
    refine ⟨4, rfl, by omega, by omega, by omega, fun q q0 q1 => ?_⟩
    walk_at "w"
    refine ⟨_, rfl, ?_⟩
    have hq : 0 ≤ full - (if q < full then q else full) ∧ full - (if q < full then q else full) ≤ full := by split <;> omega
    have := hk (full - (if q < full then q else full)).toNat (by omega) (by omega)
    rw [Int.toNat_of_nonneg hq.1] at this
    exact this
theorem st_can (a0 a1 a2 a3 : O) : startG ["_law_rail_here", "_law_park", "_law_cart", "_law_way", "_law_at", "_law_there"] [a0, a1, a2, a3] = [some a0, some a1, some a2, some a3, none, none] := rfl
theorem can_can (D : At K mg "_law_can" s_can ["_law_rail_here", "_law_park", "_law_cart", "_law_way"]) (B : Blt mg) (c_spot : Can P w K mg base 1 "_law_spot" ["_law_park", "_law_cart"] (spP K 2 phSpot)) : Can P w K mg base (2) "_law_can" ["_law_rail_here", "_law_park", "_law_cart", "_law_way"] (spP K 4 phCan) := by
  refine D.canP sc_can rfl fun f cdv A outer s H E hr => ⟨_, (ds_cons (ds_set 4 sc_can.nd (de_canP c_spot hr (da_cons (dv 1) (da_cons (dv 2) da_nil))))
    (ds_cons (ds_set 5 sc_can.nd (de_if (dt_eq hr (dv 3) de_str) (de_subI (dv 4) de_int) (de_add (dv 4) de_int)))
    (ds_cons (ds_if (dt_w (dw_or (dt_lt (dv 5) de_int) (dw_or (dt_ge (dv 5) (de_b fit_len call_len_seq rfl B.len (by decide +kernel) (da_cons (dv 0) da_nil))) (dw_or1 (dt_ge (de_b fit_len call_len_seq rfl B.len (by decide +kernel) (da_cons (de_ix (dv 1) (dv 5)) da_nil)) (de_ix (de_ix (dv 0) (dv 5)) de_int)))))) (ds_single (ds_ret de_bl)) ds_nil)
    (ds_single (ds_ret (de_or (de_eq hr (de_ix (de_ix (dv 0) (dv 4)) de_int) de_str) (de_one (de_eq hr (de_if (dt_eq hr (dv 3) de_str) (de_ix (de_ix (dv 1) (dv 4)) de_int) (de_ix (de_ix (dv 1) (dv 4)) (de_neg de_int))) (dv 2))))))))), fun ds Kt hl h => ?_⟩
  obtain ⟨L, S, t, s, rfl, hl', h5, hK, hs, ht, hk⟩ := h
  simp only [List.map_cons, List.map_nil]
  rw [st_can]
  obtain ⟨i, hat⟩ := atPl_of ht
  unfold canAt at hk
  rw [pl_of hat] at hk
  unfold canB roomB leaveB at hk
  rcases hs with rfl | rfl
  · have eq : nbT i "left" = ((i : Int) - 1) := rfl
    have ee : endT S i "left" = (S.getD i []).getD 0 0 := rfl
    rw [eq, ee] at hk
    walk_at "w"
    refine ⟨rfl, _, S, t, i, rfl, st_std S, by omega, hat, ?_⟩
    walk_at "w"
    refine ⟨⟨by decide +kernel, shL⟩, ?_⟩
    walk_at "w"
    refine ⟨fun _ => ?_, fun z => absurd z (by decide +kernel)⟩
    walk_at "w"
    have hil := hat.1
    refine ⟨fun h1 => ?_, fun h1 => ?_⟩
    · walk_at "w"
      rw [decide_eq_false (by have := of_decide_eq_true (show decide (((i : Int) - 1) < 0) = true from h1); omega : ¬ 0 ≤ ((i : Int) - 1))] at hk
      refine ⟨fun _ => ?_, fun z => (by cases z)⟩
      walk_at "w"
      exact hk
    have h1 := of_decide_eq_false (show decide (((i : Int) - 1) < 0) = false from h1)
    rw [decide_eq_true (by omega : 0 ≤ ((i : Int) - 1)), Bool.true_and] at hk
    walk_at "w"
    rw [List.length_map]
    refine ⟨fun h2 => ?_, fun h2 => ?_⟩
    · have h2 := of_decide_eq_true (show decide ((L.length : Int) ≤ ((i : Int) - 1)) = true from h2)
      rw [decide_eq_false (by omega : ¬ ((i : Int) - 1) < (L.length : Int))] at hk
      walk_at "w"
      refine ⟨fun _ => ?_, fun z => (by cases z)⟩
      walk_at "w"
      exact hk
    have h2 := of_decide_eq_false (show decide ((L.length : Int) ≤ ((i : Int) - 1)) = false from h2)
    rw [decide_eq_true (by omega : ((i : Int) - 1) < (L.length : Int)), Bool.true_and] at hk
    walk_at "w"
    rw [atI_ok (e := .none) (by omega : (0 : Int) ≤ ((i : Int) - 1)) (by rw [List.length_map]; omega), getD_map (f := fun l : List Int => PyData.tuple (l.map .int)) [] (by omega)]
    walk_at "w"
    rw [atI_ok (e := .none) (by omega : (0 : Int) ≤ ((i : Int) - 1)) (by rw [List.length_map]; omega), getD_map (f := placeD) z0 (by omega)]
    walk_at "w"
    rw [List.length_map]
    refine ⟨fun h3 => ?_, fun h3 => ?_⟩
    · have h3 := of_decide_eq_true (show decide ((L.getD (((i : Int) - 1)).toNat z0).2 ≤ ((S.getD (((i : Int) - 1)).toNat []).length : Int)) = true from h3)
      rw [decide_eq_false (by omega : ¬ ((S.getD (((i : Int) - 1)).toNat []).length : Int) < (L.getD (((i : Int) - 1)).toNat z0).2)] at hk
      walk_at "w"
      exact hk
    · have h3 := of_decide_eq_false (show decide ((L.getD (((i : Int) - 1)).toNat z0).2 ≤ ((S.getD (((i : Int) - 1)).toNat []).length : Int)) = false from h3)
      rw [decide_eq_true (by omega : ((S.getD (((i : Int) - 1)).toNat []).length : Int) < (L.getD (((i : Int) - 1)).toNat z0).2), Bool.true_and] at hk
      have hpos : 0 < (S.getD i []).length := List.length_pos_of_mem hat.2.1
      obtain ⟨k2, ps2, hi2, hn2, hp2⟩ := st_std S
      walk_at "w"
      rw [atI_ok (e := .none) (by omega : (0 : Int) ≤ i) (by rw [List.length_map]; omega), Int.toNat_natCast, getD_map (f := placeD) z0 (by omega)]
      walk_at "w"
      refine ⟨⟨shaped_kind (hK i (by omega)).1, shY⟩, ?_⟩
      walk_at "w"
      refine ⟨fun h4 => ?_, fun h4 => ?_⟩
      · replace h4 : decide ((L.getD i z0).1 = "yard") = true := h4
        rw [h4] at hk
        walk_at "w"
        exact hk
      · replace h4 : decide ((L.getD i z0).1 = "yard") = false := h4
        rw [h4, Bool.false_or] at hk
        walk_at "w"
        refine ⟨⟨by decide +kernel, shL⟩, ?_⟩
        walk_at "w"
        refine ⟨fun _ => ?_, fun z => absurd z (by decide +kernel)⟩
        walk_at "w"
        rw [atI_ok (e := .none) (by omega : (0 : Int) ≤ i) (by rw [List.length_map]; omega), Int.toNat_natCast, getD_map (f := fun l : List Int => PyData.tuple (l.map .int)) [] hat.1]
        walk_at "w"
        rw [atI_ok (e := .none) (Int.le_refl _) (by rw [List.length_map]; omega), getD_map_int (by exact hpos)]
        walk_at "w"
        show Kt (.fz (.bool (decide ((S.getD i []).getD 0 0 = t))))
        rw [show decide ((S.getD i []).getD 0 0 = t) = decide (t = (S.getD i []).getD 0 0) from decide_eq_decide.mpr eq_comm]
        exact hk
  · have eq : nbT i "right" = ((i : Int) + 1) := rfl
    have ee : endT S i "right" = (S.getD i []).getD ((S.getD i []).length - 1) 0 := rfl
    rw [eq, ee] at hk
    walk_at "w"
    refine ⟨rfl, _, S, t, i, rfl, st_std S, by omega, hat, ?_⟩
    walk_at "w"
    refine ⟨⟨by decide +kernel, shL⟩, ?_⟩
    walk_at "w"
    refine ⟨fun z => absurd z (by decide +kernel), fun _ => ?_⟩
    walk_at "w"
    have hil := hat.1
    refine ⟨fun h1 => ?_, fun h1 => ?_⟩
    · walk_at "w"
      rw [decide_eq_false (by have := of_decide_eq_true (show decide (((i : Int) + 1) < 0) = true from h1); omega : ¬ 0 ≤ ((i : Int) + 1))] at hk
      refine ⟨fun _ => ?_, fun z => (by cases z)⟩
      walk_at "w"
      exact hk
    have h1 := of_decide_eq_false (show decide (((i : Int) + 1) < 0) = false from h1)
    rw [decide_eq_true (by omega : 0 ≤ ((i : Int) + 1)), Bool.true_and] at hk
    walk_at "w"
    rw [List.length_map]
    refine ⟨fun h2 => ?_, fun h2 => ?_⟩
    · have h2 := of_decide_eq_true (show decide ((L.length : Int) ≤ ((i : Int) + 1)) = true from h2)
      rw [decide_eq_false (by omega : ¬ ((i : Int) + 1) < (L.length : Int))] at hk
      walk_at "w"
      refine ⟨fun _ => ?_, fun z => (by cases z)⟩
      walk_at "w"
      exact hk
    have h2 := of_decide_eq_false (show decide ((L.length : Int) ≤ ((i : Int) + 1)) = false from h2)
    rw [decide_eq_true (by omega : ((i : Int) + 1) < (L.length : Int)), Bool.true_and] at hk
    walk_at "w"
    rw [atI_ok (e := .none) (by omega : (0 : Int) ≤ ((i : Int) + 1)) (by rw [List.length_map]; omega), getD_map (f := fun l : List Int => PyData.tuple (l.map .int)) [] (by omega)]
    walk_at "w"
    rw [atI_ok (e := .none) (by omega : (0 : Int) ≤ ((i : Int) + 1)) (by rw [List.length_map]; omega), getD_map (f := placeD) z0 (by omega)]
    walk_at "w"
    rw [List.length_map]
    refine ⟨fun h3 => ?_, fun h3 => ?_⟩
    · have h3 := of_decide_eq_true (show decide ((L.getD (((i : Int) + 1)).toNat z0).2 ≤ ((S.getD (((i : Int) + 1)).toNat []).length : Int)) = true from h3)
      rw [decide_eq_false (by omega : ¬ ((S.getD (((i : Int) + 1)).toNat []).length : Int) < (L.getD (((i : Int) + 1)).toNat z0).2)] at hk
      walk_at "w"
      exact hk
    · have h3 := of_decide_eq_false (show decide ((L.getD (((i : Int) + 1)).toNat z0).2 ≤ ((S.getD (((i : Int) + 1)).toNat []).length : Int)) = false from h3)
      rw [decide_eq_true (by omega : ((S.getD (((i : Int) + 1)).toNat []).length : Int) < (L.getD (((i : Int) + 1)).toNat z0).2), Bool.true_and] at hk
      have hpos : 0 < (S.getD i []).length := List.length_pos_of_mem hat.2.1
      obtain ⟨k2, ps2, hi2, hn2, hp2⟩ := st_std S
      walk_at "w"
      rw [atI_ok (e := .none) (by omega : (0 : Int) ≤ i) (by rw [List.length_map]; omega), Int.toNat_natCast, getD_map (f := placeD) z0 (by omega)]
      walk_at "w"
      refine ⟨⟨shaped_kind (hK i (by omega)).1, shY⟩, ?_⟩
      walk_at "w"
      refine ⟨fun h4 => ?_, fun h4 => ?_⟩
      · replace h4 : decide ((L.getD i z0).1 = "yard") = true := h4
        rw [h4] at hk
        walk_at "w"
        exact hk
      · replace h4 : decide ((L.getD i z0).1 = "yard") = false := h4
        rw [h4, Bool.false_or] at hk
        walk_at "w"
        refine ⟨⟨by decide +kernel, shL⟩, ?_⟩
        walk_at "w"
        refine ⟨fun z => absurd z (by decide +kernel), fun _ => ?_⟩
        walk_at "w"
        rw [atI_ok (e := .none) (by omega : (0 : Int) ≤ i) (by rw [List.length_map]; omega), Int.toNat_natCast, getD_map (f := fun l : List Int => PyData.tuple (l.map .int)) [] hat.1]
        walk_at "w"
        rw [atI_last .none (by rw [List.length_map]; exact hpos), List.length_map, getD_map_int (by omega)]
        walk_at "w"
        show Kt (.fz (.bool (decide ((S.getD i []).getD ((S.getD i []).length - 1) 0 = t))))
        rw [show decide ((S.getD i []).getD ((S.getD i []).length - 1) 0 = t) = decide (t = (S.getD i []).getD ((S.getD i []).length - 1) 0) from decide_eq_decide.mpr eq_comm]
        exact hk
end
end Kx
end
section
set_option maxHeartbeats 4000000
namespace Kx
open PySem PySem.Spec PyProof.Rows L2 Dl
local macro_rules | `(tactic| walk_at "dd") => `(tactic| simp only [dC, dVar, dBin, dTest, onB, dNotT, dAndT, dOrT, dAndV, dOrV, dNotV, dIf, dNil, dCons, dCB, dSeqI, dRng1, dRng2, dEnI, dZpI, escs, esc, fix1, fixN, mov, vw, vk, see, seeAll, dNext, dSeq, dBreak, dCont, dExpr, dRet, dRetN, dIfS, dSet, dMulti, putN, gdName, gdNil, gdCons, gdTup, dFor, dWhile, dCallP, dCallV, vws, isScal, onBox, dCallB, dTup, dLst, dLstO, dIx, onI2, dNegI, dAdd2, addD, dEq2, eqK, dIn2, dLen, onI1, onI12, dInt1, onInts, dToL, dToT, onBs, dMeth, isOwn, rhoApp, rhoPopAt, dStore, dRep2, dNoP, dPart, dSlice, wipeG, dYes, dLc, dIsi, dIsNT, dIsN, nonOf, dAug, dUnp, dKwP, pick, dNewD, dUpd, onPairs, dSortD, onIntsA, onOlAt, dAppT, dCallS, dLenS, dIxS, dLc2, lcTurn, List.getD_cons_zero, List.getD_cons_succ, Nat.zero_le, zl1, zl2, zl3, zl4, zl5, zl6, zl7, zl8, zl9, zl10, zl11, ls1, ls2, ls3, ls4, eq_self, Nat.reduceAdd, Nat.reduceEqDiff, itemsOf_list, itemsOf_tuple, Dl.get, Dl.put, List.length_cons, List.length_nil, List.map_cons, List.map_nil, id, true_and, and_true, true_implies, forall_const, Bool.not_true, Bool.not_false, reduceCtorEq, false_implies, Nat.zero_add, ite_true, ite_false, Bool.true_eq_false, Bool.false_eq_true])
local macro_rules | `(tactic| walk_at "w") => `(tactic| conv => whnf)
local macro_rules | `(tactic| walk_at "cb") => `(tactic| ((conv => whnf); refine ⟨rfl, rfl, Nat.zero_lt_succ _, ?_⟩; (conv => whnf)))
local macro_rules | `(tactic| walk_at "cp") => `(tactic| ((conv => whnf); refine ⟨rfl, ?_⟩; (conv => whnf)))
local macro_rules | `(tactic| walk_at "a") => `(tactic| ((conv => whnf); repeat (first | (refine ⟨leS rfl, ?_⟩; (conv => whnf)) | (refine ⟨trivial, ?_⟩; (conv => whnf)) | (refine ⟨rfl, ?_⟩; (conv => whnf)) | (refine ⟨Nat.zero_lt_succ _, ?_⟩; (conv => whnf)) | (refine ⟨(show (2 : Nat) < _ from ltN rfl), ?_⟩; (conv => whnf)) | (refine ⟨(show Dl.inR _ from (by unfold Dl.inR; omega)), ?_⟩; (conv => whnf)) | (refine ⟨fun _ => ?_, fun z => Bool.noConfusion (show true = false from z)⟩; (conv => whnf)) | (refine ⟨fun z => Bool.noConfusion (show false = true from z), fun _ => ?_⟩; (conv => whnf))); try (first | refine norm_ex (by dsimp only [Dl.put, Dl.wipeG, Dl.putN, puts]) ?_ | refine norm_lc (by dsimp only [Dl.put, Dl.wipeG, Dl.putN, puts]) ?_)))
local macro_rules | `(tactic| walk_at "b") => `(tactic| ((try dsimp only [puts, Dl.put, Dl.putN, Dl.wipeG]); walk_at "a"))
local macro_rules | `(tactic| walk_at "d") => `(tactic| ((walk_at "b"); dsimp only))
section
variable {P : Program} {w : World} {K : PySem.W.Frag} {mg : Str → Option Value} {base : Heap}
theorem st_spans (a0 a1 : O) : startG ["line", "many", "found", "high", "rest", "_", "size", "low"] [a0, a1] = [some a0, some a1, none, none, none, none, none, none] := rfl
theorem can_spans (D : At K mg "spans" s_spans ["line", "many"]) (B : Blt mg) (c_capacity : Can P w K mg base 1 "capacity" ["line"] (spP K 1 phCap)) : Can P w K mg base (2) "spans" ["line", "many"] (spP K 2 phSpans) := by
  refine D.canP sc_spans rfl fun f cdv A outer s H E hr => ⟨_, (ds_cons (ds_set 2 sc_spans.nd (de_lst da_nil))
    (ds_cons (ds_set 3 sc_spans.nd de_int)
    (ds_cons (ds_set 4 sc_spans.nd (de_canP c_capacity hr (da_cons (dv 0) da_nil)))
    (ds_cons (ds_for (di_seq (dv 0)) (dg_tup (n := 2) (dgs_cons (dg_name 5 sc_spans.nd) (dgs_cons (dg_name 6 sc_spans.nd) dgs_nil)))
      (ds_cons (ds_set 7 sc_spans.nd (de_b fit_max2 (call_max2 rfl) rfl B.max (by decide +kernel) (da_cons de_int (da_cons (de_subI (dv 1) (dv 4)) da_nil))))
    (ds_cons (ds_augA 3 sc_spans.nd (dv 6))
    (ds_cons (ds_augS 4 sc_spans.nd (dv 6))
    (ds_single (ds_expr (de_append 2 (pv 2) (da_cons (de_tup (da_cons (dv 7) (da_cons (dv 3) da_nil))) da_nil))))))))
    (ds_single (ds_ret (dv 2))))))), fun ds Kt hl h => ?_⟩
  obtain ⟨d, L, m, rfl, hL, h5, hk⟩ := h
  obtain ⟨k, ps, hi, hn, hp⟩ := id hL
  simp only [List.map_cons, List.map_nil]
  rw [st_spans]
  try walk_at "dd"
  refine ⟨d, L, rfl, hL, h5, ?_⟩
  try walk_at "dd"
  simp only [hi]
  refine ⟨fun i Γ => ∃ a b c, Γ = [some (.fz d), some (.fz (.int m)), some (.own ((List.range i).map (spanD L m))), some (.fz (.int (caps (L.take i)))), some (.fz (.int (caps L - caps (L.take i)))), a, b, c], ?_, ?_, ?_⟩
  · refine ⟨none, none, none, ?_⟩
    have e : caps (L.take 0) = 0 := rfl
    rw [e, Int.sub_zero]
    rfl
  · rintro i Γ hlt ⟨a, b, c, rfl⟩
    try walk_at "dd"
    obtain ⟨k', h2⟩ := hp i (by omega)
    simp only [h2]
    try walk_at "dd"
    refine ⟨lt_size (by simp; omega), ?_⟩
    have e := caps_take (L := L) (i := i) (by omega)
    simp only [range_at, List.map_append, List.map_cons, List.map_nil, spanD, lowT, highT, e, Int.sub_sub]
    exact ⟨_, _, _, rfl⟩
  · rintro Γ ⟨a, b, c, rfl⟩
    try walk_at "dd"
    rw [hn]
    exact hk
theorem st_blocks_at (a0 a1 : O) : startG ["line", "many", "found", "block", "first", "last", "low", "high"] [a0, a1] = [some a0, some a1, none, none, none, none, none, none] := rfl
theorem can_blocks_at (D : At K mg "blocks_at" s_blocks_at ["line", "many"]) (B : Blt mg) (c_blocks : Can P w K mg base 5 "blocks" ["line", "many"] (spP K 2 phBlocks)) (c_spans : Can P w K mg base 2 "spans" ["line", "many"] (spP K 2 phSpans)) : Can P w K mg base (6) "blocks_at" ["line", "many"] (spP K 2 phBlocksAt) := by
  refine D.canP sc_blocks_at rfl fun f cdv A outer s H E hr => ⟨_, (ds_cons (ds_set 2 sc_blocks_at.nd (de_canP c_blocks hr (da_cons (dv 0) (da_cons (dv 1) da_nil))))
    (ds_single (ds_ret (de_lc sc_blocks_at.nd (di_seq (de_canP c_spans hr (da_cons (dv 0) (da_cons (dv 1) da_nil)))) (blkOk_by (own := [("low", 6), ("high", 7)]) (by rfl)) (fun _ _ _ _ _ => (dg_tup (n := 2) (dgs_cons (dg_name 6 sc_blocks_at.nd) (dgs_cons (dg_name 7 sc_blocks_at.nd) dgs_nil)))) (fun _ _ _ _ _ => dts_nil) (fun _ _ _ _ _ => (de_lc sc_blocks_at.nd (di_enum rfl B.enumerate (da_cons (dv 2) da_nil)) (blkOk_by (own := [("block", 3), ("first", 4), ("last", 5)]) (by rfl)) (fun _ _ _ _ _ => (dg_tup (n := 2) (dgs_cons (dg_name 3 sc_blocks_at.nd) (dgs_cons (dg_tup (n := 2) (dgs_cons (dg_name 4 sc_blocks_at.nd) (dgs_cons (dg_name 5 sc_blocks_at.nd) dgs_nil))) dgs_nil)))) (fun _ _ _ _ _ => (dts_one (dt_w (dw_and (dt_le (dv 6) (dv 5)) (dw_and1 (dt_lt (dv 4) (dv 7))))))) (fun _ _ _ _ _ => (dv 3)))))))), fun ds Kt hl h => ?_⟩
  obtain ⟨d, L, m, rfl, hL, h5, hK, hm, hk⟩ := h
  simp only [List.map_cons, List.map_nil]
  rw [st_blocks_at]
  walk_at "a"
  refine ⟨d, L, m, rfl, hL, h5, hK, hm, ?_⟩
  walk_at "a"
  refine ⟨d, L, m, rfl, hL, h5, ?_⟩
  walk_at "a"
  have hb := blks_len L m
  refine lcx_at (fun Γ0 i acc Γ => acc = (List.range i).map (fun i => .list (natsD (allowT L m i))) ∧ ∃ o : O, (o = .own ((blksT L m).map pairD) ∨ o = .fz (.list ((blksT L m).map pairD))) ∧ Γ = Dl.put Γ0 2 (some o)) ⟨rfl, _, .inl rfl, rfl⟩ ⟨?_, ?_⟩
  · rintro i acc Γ hi ⟨rfl, o, ho, rfl⟩
    rw [List.length_map, List.length_range] at hi
    have ej : (fun i => (List.map (spanD L m) (List.range L.length)).getD i PyData.none) i = spanD L m i := (getD_map (f := spanD L m) 0 (by rw [List.length_range]; exact hi)).trans (by rw [List.getD_eq_getElem?_getD, List.getElem?_range hi]; rfl)
    rw [ej]
    rcases ho with rfl | rfl <;> (
      walk_at "a"
      refine lc_at (fun b => natsD (allowN L m i b)) rfl ⟨?_, ?_⟩
      · rintro b acc Γ hb2 ⟨rfl, rfl⟩
        rw [List.length_map] at hb2
        have hal := allow_len L m i b
        have eb : (List.map pairD (blksT L m)).getD b PyData.none = pairD ((blksT L m).getD b (0, 0)) := getD_map (0, 0) hb2
        have ha := allow_at L m i b
        unfold allowB at ha
        walk_at "w"
        refine ⟨rfl, ?_⟩
        walk_at "w"
        rw [eb]
        walk_at "a"
        refine ⟨fun h1 => ?_, fun h1 => ?_⟩
        · walk_at "a"
          refine ⟨fun h2 => ?_, fun h2 => ?_⟩
          · walk_at "a"
            replace h1 : decide (lowT L m i ≤ (((blksT L m).getD b (0, 0)).2 : Nat)) = true := h1
            replace h2 : decide ((((blksT L m).getD b (0, 0)).1 : Nat) < highT L i) = true := h2
            rw [h1, h2, Bool.and_self, if_pos rfl] at ha
            refine ⟨lt_size (by rw [natsD_len]; omega), ?_, rfl⟩
            rw [ha, ← natsD_app]
            rfl
          · walk_at "a"
            replace h2 : decide ((((blksT L m).getD b (0, 0)).1 : Nat) < highT L i) = false := h2
            rw [h2, Bool.and_false, if_neg Bool.false_ne_true, List.append_nil] at ha
            exact ⟨by rw [ha], rfl⟩
        · walk_at "a"
          replace h1 : decide (lowT L m i ≤ (((blksT L m).getD b (0, 0)).2 : Nat)) = false := h1
          rw [h1, Bool.false_and, if_neg Bool.false_ne_true, List.append_nil] at ha
          exact ⟨by rw [ha], rfl⟩
      · rintro acc Γ ⟨rfl, rfl⟩
        walk_at "w"
        refine ⟨lt_size (by rw [List.length_map, List.length_range]; omega), ?_, _, .inr rfl, rfl⟩
        rw [List.length_map, range_map_at]
        rfl)
  · rintro acc Γ ⟨rfl, o, ho, rfl⟩
    walk_at "w"
    rw [List.length_map, List.length_range]
    exact hk
theorem st_cell_at (a0 a1 : O) : startG ["_law_script", "_law_k"] [a0, a1] = [some a0, some a1] := rfl
theorem can_cell_at (D : At K mg "_law_cell_at" s_cell_at ["_law_script", "_law_k"]) (B : Blt mg) : Can P w K mg base (1) "_law_cell_at" ["_law_script", "_law_k"] (spS K 1 phCell) := by
  refine D.canS sc_cell_at rfl fun f cdv A outer s H E hr => ⟨_, (ds_cons (ds_if (dt_lt (dv 1) (de_b fit_lenS call_len_seq rfl B.len (by decide +kernel) (da_cons (dv 0) da_nil))) (ds_single (ds_ret (de_ixS 0 (pv 0) (dv 1)))) ds_nil)
    (ds_single (ds_ret de_int))), fun ns ds Kt hl h => ?_⟩
  obtain ⟨k, rfl, h0, hk⟩ := h
  simp only [List.map_cons, List.map_nil]
  rw [st_cell_at]
  try walk_at "dd"
  refine ⟨0, ns, rfl, rfl, ?_⟩
  try walk_at "dd"
  refine ⟨fun h1 => ⟨⟨ns, rfl⟩, ns, k, rfl, rfl, h0, of_decide_eq_true h1, hk _⟩, fun _ => hk _⟩
theorem st_lists_ (a0 : O) : startG ["_law_part", "_law_piece"] [a0] = [some a0, none] := rfl
theorem can_lists_ {n : Nat} {ph : List PyData → (O → Prop) → Prop} (D : At K mg "_law_lists" s_lists ["_law_part"]) (B : Blt mg) (hph : match n with | 0 => True | n + 1 => ph = phLists n) (c_lists : Can P w K mg base n "_law_lists" ["_law_part"] (spP K 1 ph)) : Can P w K mg base ((n + 1)) "_law_lists" ["_law_part"] (spP K 1 (phLists n)) := by
  refine D.canP sc_lists rfl fun f cdv A outer s H E hr => ⟨_, (ds_single (ds_ret (de_if (dt_val (de_isi2 "list" "tuple" isi_list isi_tuple (dv 0) (by rfl) B.isinstance (by rfl) B.list (by decide +kernel) (by rfl) B.tuple (by decide +kernel))) (de_lc sc_lists.nd (di_seq (dv 0)) (blkOk_by (own := [("_law_piece", 1)]) (by rfl)) (fun _ _ _ _ _ => (dg_name 1 sc_lists.nd)) (fun _ _ _ _ _ => dts_nil) (fun _ _ _ _ _ => (de_canP c_lists hr (da_cons (dv 1) da_nil) (Nat.le_refl _)))) (dv 0)))), fun ds Kt hl h => ?_⟩
  obtain ⟨d, rfl, hd, hk1, hk2⟩ := h
  simp only [List.map_cons, List.map_nil]
  rw [st_lists_]
  walk_at "w"
  refine ⟨deep_noDict hd, ?_⟩
  cases hd with
  | int _ i =>
    walk_at "w"
    exact ⟨fun z => (by cases z), fun _ => hk2 (by intro xs; simp [listed])⟩
  | bool _ i =>
    walk_at "w"
    exact ⟨fun z => (by cases z), fun _ => hk2 (by intro xs; simp [listed])⟩
  | str _ i hi =>
    walk_at "w"
    exact ⟨fun z => (by cases z), fun _ => hk2 (by intro xs; simp [listed])⟩
  | none _ =>
    walk_at "w"
    exact ⟨fun z => (by cases z), fun _ => hk2 (by intro xs; simp [listed])⟩
  | list n' ds hl9 hd =>
    walk_at "w"
    refine ⟨fun _ => ?_, fun z => by cases z⟩
    walk_at "w"
    have hph : ph = phLists n' := hph
    subst hph
    refine ⟨fun i acc Γ => acc = (ds.take i).map listed ∧ Γ = [some (.fz (.list ds)), none], ⟨rfl, rfl⟩, ?_, ?_⟩
    · rintro i acc Γ hi ⟨rfl, rfl⟩
      walk_at "w"
      refine ⟨fun _ => ?_, fun z => by cases z⟩
      walk_at "cp"
      refine ⟨_, rfl, hd _ (getD_mem hi), fun xs hx => ?_, fun hx => ?_⟩
      · walk_at "w"
        refine ⟨lt_size5 (by rw [List.length_map, List.length_take]; omega), ?_, rfl⟩
        rw [take_at .none hi, List.map_append, ← hx]
        rfl
      · walk_at "w"
        refine ⟨lt_size5 (by rw [List.length_map, List.length_take]; omega), ?_, rfl⟩
        rw [take_at .none hi, List.map_append, List.map_singleton, listed_atom hx]
    · rintro acc Γ ⟨rfl, rfl⟩
      rw [List.take_length]
      exact hk1 _ (by simp [listed, listedAll_map])
  | tuple n' ds hl9 hd =>
    walk_at "w"
    refine ⟨fun _ => ?_, fun z => by cases z⟩
    walk_at "w"
    have hph : ph = phLists n' := hph
    subst hph
    refine ⟨fun i acc Γ => acc = (ds.take i).map listed ∧ Γ = [some (.fz (.tuple ds)), none], ⟨rfl, rfl⟩, ?_, ?_⟩
    · rintro i acc Γ hi ⟨rfl, rfl⟩
      walk_at "w"
      refine ⟨fun _ => ?_, fun z => by cases z⟩
      walk_at "cp"
      refine ⟨_, rfl, hd _ (getD_mem hi), fun xs hx => ?_, fun hx => ?_⟩
      · walk_at "w"
        refine ⟨lt_size5 (by rw [List.length_map, List.length_take]; omega), ?_, rfl⟩
        rw [take_at .none hi, List.map_append, ← hx]
        rfl
      · walk_at "w"
        refine ⟨lt_size5 (by rw [List.length_map, List.length_take]; omega), ?_, rfl⟩
        rw [take_at .none hi, List.map_append, List.map_singleton, listed_atom hx]
    · rintro acc Γ ⟨rfl, rfl⟩
      rw [List.take_length]
      exact hk1 _ (by simp [listed, listedAll_map])
theorem can_lists (D : At K mg "_law_lists" s_lists ["_law_part"]) (B : Blt mg) : ∀ n : Nat, Can P w K mg base (n + 1) "_law_lists" ["_law_part"] (spP K 1 (phLists n))
  | 0 => can_lists_ D B trivial (can_void D)
  | n + 1 => can_lists_ D B rfl (can_lists D B n)
theorem st_ids (a0 a1 : O) : startG ["_law_box_here", "_law_count_here", "_law_gap", "_law_top", "_law_found", "_law_at"] [a0, a1] = [some a0, some a1, none, none, none, none] := rfl
theorem can_ids (D : At K mg "_law_ids" s_ids ["_law_box_here", "_law_count_here"]) (B : Blt mg) (c_take : Can P w K mg base 1 "_law_take" ["_law_box_here", "_law_span"] (spB K 1 phTake)) (c_of : Can P w K mg base 2 "_law_of" ["_law_box_here", "_law_some"] (spB K 1 phOf)) (c_strewn : Can P w K mg base 3 "_law_strewn" ["_law_box_here", "_law_some"] (spB K 1 phStrewn)) : Can P w K mg base (4) "_law_ids" ["_law_box_here", "_law_count_here"] (spB K 1 phIds) := by
  refine D.canB sc_ids rfl fun f cdv A outer s H E hr => ⟨_, (ds_cons (ds_par3 2 3 4 sc_ids.nd (da_cons (de_canB c_of hr (da_cons (dv 0) (da_cons (de_lst (da_cons de_int (da_cons de_int (da_cons de_int (da_cons (de_powI de_int de_int) da_nil))))) da_nil))) (da_cons (de_canB c_take hr (da_cons (dv 0) (da_cons de_int da_nil))) (da_cons (de_lst da_nil) da_nil))))
    (ds_cons (ds_for (di_range1 rfl B.range (da_cons (dv 1) da_nil)) (dg_name 5 sc_ids.nd)
      (ds_cons (ds_set 3 sc_ids.nd (de_add (de_add (dv 3) de_int) (de_canB c_take hr (da_cons (dv 0) (da_cons (dv 2) da_nil)))))
    (ds_single (ds_expr (de_append 4 (pv 4) (da_cons (de_subI (dv 3) de_int) da_nil))))))
    (ds_single (ds_ret (de_canB c_strewn hr (da_cons (dv 0) (da_cons (dv 4) da_nil))))))), fun p m ds Kt hl h => ?_⟩
  obtain ⟨c, rfl, hc, hm, hk⟩ := h
  simp only [List.map_cons, List.map_nil]
  rw [st_ids]
  walk_at "w"
  refine ⟨⟨by decide, by decide, by decide⟩, ?_⟩
  walk_at "w"
  refine ⟨leS rfl, ?_⟩
  walk_at "cb"
  refine ⟨_, true, [.int 1, .int 1, .int 7, .int 10000000], rfl, rfl, ltN rfl, ltN rfl, by omega, fun j hj => ?_⟩
  obtain ⟨gap, e, hgap⟩ := four_of hj
  rw [e]
  walk_at "cb"
  refine ⟨4, rfl, by omega, by omega, by omega, fun top r0 r1 => ?_⟩
  walk_at "w"
  refine ⟨Nat.zero_le _, ?_⟩
  walk_at "cp"
  refine ⟨⟨by omega, by omega⟩, fun i Γ => ∃ (r : List Int) (t : Int) (a : Option O), r.length = i ∧ r.Pairwise (· < ·) ∧ 0 ≤ t ∧ (t ≤ 4 + i * 10000001 ∧ ∀ x ∈ r, 0 ≤ x ∧ x < t) ∧ Γ = [some (.box p (m + 2 + i)), some (.fz (.int c)), some (.fz (.int gap)), some (.fz (.int t)), some (.own (r.map .int)), a], ?_, ?_, ?_⟩
  · exact ⟨[], top, none, rfl, .nil, r0, ⟨by omega, fun x h => absurd h (by simp)⟩, rfl⟩
  · rintro i Γ hi ⟨r, t, a, hr, hp, ht, ⟨hb, hx⟩, rfl⟩
    have hi2 : i < c := by omega
    walk_at "cb"
    refine ⟨gap, rfl, by omega, by omega, by omega, fun z z0 z1 => ?_⟩
    walk_at "w"
    refine ⟨trivial, ?_⟩
    walk_at "w"
    have e9 : r.map PyData.int ++ [.int (t + 1 + z - 1)] = (r ++ [t + 1 + z - 1]).map PyData.int := by rw [List.map_append]; rfl
    rw [e9]
    refine ⟨lt_size (by rw [List.length_map]; omega), ?_⟩
    have g1 : (r ++ [t + 1 + z - 1]).Pairwise (· < ·) := List.pairwise_append.mpr ⟨hp, List.pairwise_singleton _ _, fun x h y hy => by
      have := (hx x h).2
      rw [List.mem_singleton] at hy
      omega⟩
    have g2 : ∀ x ∈ r ++ [t + 1 + z - 1], 0 ≤ x ∧ x < t + 1 + z := by
      intro x h
      rcases List.mem_append.mp h with h | h
      · have := hx x h
        omega
      · rw [List.mem_singleton] at h
        omega
    exact ⟨_, _, _, by rw [List.length_append, hr]; rfl, g1, by omega, ⟨by omega, g2⟩, rfl⟩
  · rintro Γ ⟨r, t, a, hr, hp, ht, ⟨hb, hx⟩, rfl⟩
    walk_at "cb"
    have hr2 : r.length = c := by rw [hr]; omega
    refine ⟨_, true, r, rfl, rfl, by omega, by omega, fun ys hy => ?_⟩
    walk_at "w"
    refine ⟨_, rfl, hk ys _ (hy.length_eq.trans hr2) ?_ (fun x h => ⟨(hx x (hy.mem_iff.mp h)).1, by have := (hx x (hy.mem_iff.mp h)).2; omega⟩) ?_⟩
    · refine hy.nodup_iff.mpr (hp.imp fun h => Int.ne_of_lt h)
    · omega
theorem st_scene (a0 a1 a2 a3 : O) : startG ["_law_box_here", "_law_most", "_law_top", "_law_carts_here", "_law_rail_here", "_law_count_here"] [a0, a1, a2, a3] = [some a0, some a1, some a2, some a3, none, none] := rfl
theorem can_scene (D : At K mg "_law_scene" s_scene ["_law_box_here", "_law_most", "_law_top", "_law_carts_here"]) (B : Blt mg) (c_rail : Can P w K mg base 3 "_law_rail" ["_law_box_here", "_law_most", "_law_top"] (spB K 2 phRail3)) (c_count : Can P w K mg base 2 "_law_count" ["_law_box_here", "_law_rail_here", "_law_most"] (spB K 2 phCount)) (c_ids : Can P w K mg base 4 "_law_ids" ["_law_box_here", "_law_count_here"] (spB K 1 phIds)) (c_numbers : Can P w K mg base 3 "_law_numbers" ["_law_box_here", "_law_rail_here", "_law_count_here"] (spB K 2 phNumbers)) (c_parked : Can P w K mg base 1 "_law_parked" ["_law_rail_here", "_law_row_up", "_law_numbers_here"] (spP K 3 phParkX)) : Can P w K mg base (5) "_law_scene" ["_law_box_here", "_law_most", "_law_top", "_law_carts_here"] (spB K 3 phScene3) := by
  refine D.canB sc_scene rfl fun f cdv A outer s H E hr => ⟨_, (ds_cons (ds_set 4 sc_scene.nd (de_canB c_rail hr (da_cons (dv 0) (da_cons (dv 1) (da_cons (dv 2) da_nil)))))
    (ds_cons (ds_set 5 sc_scene.nd (de_canB c_count hr (da_cons (dv 0) (da_cons (dv 4) (da_cons (dv 3) da_nil)))))
    (ds_single (ds_ret (de_tup (da_cons (dv 4) (da_cons (de_canP c_parked hr (da_cons (dv 4) (da_cons (de_canB c_ids hr (da_cons (dv 0) (da_cons (dv 5) da_nil))) (da_cons (de_canB c_numbers hr (da_cons (dv 0) (da_cons (dv 4) (da_cons (dv 5) da_nil)))) da_nil)))) da_nil))))))), fun p m ds Kt hl h => ?_⟩
  obtain ⟨most, top, cars, rfl, m1, m2, t1, t2, c1, c2, hm, hk⟩ := h
  simp only [List.map_cons, List.map_nil]
  rw [st_scene]
  walk_at "cb"
  refine ⟨most, top, rfl, m1, m2, t1, t2, by omega, fun L m' l1 l2 hK hS hm' => ?_⟩
  walk_at "cb"
  refine ⟨lineD L, L, cars, rfl, ln_line L, by omega, hK, c1, c2, by omega, fun c hc1 hc2 => ?_⟩
  walk_at "cb"
  refine ⟨c, rfl, by omega, by omega, fun r m2 r1 r2 r3 r4 => ?_⟩
  walk_at "cb"
  refine ⟨lineD L, L, c, rfl, ln_line L, by omega, hK, hc2, by omega, by omega, fun N hN hs => ?_⟩
  walk_at "w"
  refine ⟨rfl, lineD L, L, N, r, rfl, ln_line L, hN, by omega, hK, by omega, by rw [hs, r1], ?_⟩
  walk_at "w"
  have hp := (park_all hN (by rw [hs, r1])).length_eq
  refine ⟨leS rfl, ?_⟩
  walk_at "w"
  refine ⟨_, rfl, hk L (parkS L r N) _ l1 l2 hK hS (scn_park hN (by rw [hs, r1]) r2 r3) (by omega) (by omega) (by omega)⟩
theorem st_gone (a0 a1 a2 a3 : O) : startG ["_law_rail_here", "_law_park", "_law_cart", "_law_way", "_law_at", "_law_found", "_law_there", "_law_its", "_law_more"] [a0, a1, a2, a3] = [some a0, some a1, some a2, some a3, none, none, none, none, none] := rfl
theorem can_gone (D : At K mg "_law_gone" s_gone ["_law_rail_here", "_law_park", "_law_cart", "_law_way"]) (B : Blt mg) (c_spot : Can P w K mg base 1 "_law_spot" ["_law_park", "_law_cart"] (spP K 2 phSpot)) : Can P w K mg base (2) "_law_gone" ["_law_rail_here", "_law_park", "_law_cart", "_law_way"] (spP K 4 phGone) := by
  refine D.canP sc_gone rfl fun f cdv A outer s H E hr => ⟨_, (ds_cons (ds_par 4 5 sc_gone.nd (da_cons (de_canP c_spot hr (da_cons (dv 1) (da_cons (dv 2) da_nil))) (da_cons (de_ty fit_list call_list_of rfl B.list (by decide +kernel) (da_cons (dv 1) da_nil)) da_nil)))
    (ds_cons (ds_set 6 sc_gone.nd (de_if (dt_eq hr (dv 3) de_str) (de_subI (dv 4) de_int) (de_add (dv 4) de_int)))
    (ds_cons (ds_store 5 (pv 5) (dv 4) (de_ty fit_tuple call_tuple_of rfl B.tuple (by decide +kernel) (da_cons (de_lc sc_gone.nd (di_seq (de_ix (dv 1) (dv 4))) (blkOk_by (own := [("_law_its", 7)]) (by rfl)) (fun _ _ _ _ _ => (dg_name 7 sc_gone.nd)) (fun _ _ _ _ _ => (dts_one (dt_ne hr (dv 7) (dv 2)))) (fun _ _ _ _ _ => (dv 7))) da_nil)))
    (ds_cons (ds_set 8 sc_gone.nd (de_if (dt_eq hr (dv 3) de_str) (de_add (de_tup (da_cons (dv 2) da_nil)) (de_ix (dv 1) (dv 6))) (de_add (de_ix (dv 1) (dv 6)) (de_tup (da_cons (dv 2) da_nil)))))
    (ds_cons (ds_store 5 (pv 5) (dv 6) (de_if (dt_eq hr (de_ix (de_ix (dv 0) (dv 6)) de_int) de_str) (de_ty fit_tuple call_tuple_of rfl B.tuple (by decide +kernel) (da_cons (de_b fit_sortedU cr_sortedU rfl B.sorted (by decide +kernel) (da_cons (dv 8) da_nil)) da_nil)) (dv 8)))
    (ds_single (ds_ret (de_ty fit_tuple call_tuple_of rfl B.tuple (by decide +kernel) (da_cons (dv 5) da_nil))))))))), fun ds Kt hl h => ?_⟩
  obtain ⟨L, S, t, s, rfl, hl', h5, hK, h9, hs, ht, hc, hk⟩ := h
  simp only [List.map_cons, List.map_nil]
  rw [st_gone]
  obtain ⟨i, hat⟩ := atPl_of ht
  rw [pl_of hat] at hk
  have hil := hat.1
  have hli := place_len S i
  rcases hs with rfl | rfl
  · have eq : nbT i "left" = ((i : Int) - 1) := rfl
    obtain ⟨q0, q1, _⟩ := can_room hat hc
    unfold goneT entT at hk
    rw [eq] at hk q0 q1
    walk_at "w"
    refine ⟨rfl, _, S, t, i, rfl, st_std S, by omega, hat, ?_⟩
    walk_at "w"
    refine ⟨rfl, ?_⟩
    walk_at "w"
    refine ⟨⟨by decide +kernel, shL⟩, ?_⟩
    walk_at "w"
    refine ⟨fun _ => ?_, fun z => absurd z (by decide +kernel)⟩
    walk_at "w"
    rw [atI_ok (e := .none) (by omega : (0 : Int) ≤ i) (by rw [List.length_map]; omega), Int.toNat_natCast, getD_map (f := fun l : List Int => PyData.tuple (l.map .int)) [] hat.1]
    walk_at "w"
    refine ⟨fun j acc Γ => acc = (dropT ((S.getD i []).take j) t).map .int ∧ Γ = [some (.fz (lineD L)), some (.fz (stdD S)), some (.fz (.int t)), some (.fz (.str "left")), some (.fz (.int i)), some (.own (S.map fun l => .tuple (l.map .int))), some (.fz (.int ((i : Int) - 1))), none, none], ⟨rfl, rfl⟩, ?_, ?_⟩
    · rintro j acc Γ hlt ⟨rfl, rfl⟩
      rw [List.length_map] at hlt
      have ej : (fun j => ((S.getD i []).map PyData.int).getD j .none) j = .int ((S.getD i []).getD j 0) := getD_map_int hlt
      rw [ej]
      have hdl := drop_len ((S.getD i []).take j) t
      rw [List.length_take] at hdl
      walk_at "w"
      refine ⟨fun h1 => ?_, fun h1 => ?_⟩
      · walk_at "w"
        refine ⟨lt_size (by rw [List.length_map]; omega), ?_, rfl⟩
        rw [drop_at hlt, if_pos (ne_of_not h1), List.map_append]
        rfl
      · walk_at "w"
        refine ⟨?_, rfl⟩
        rw [drop_at hlt, if_neg (not_ne_of_not h1), List.append_nil]
    · rintro acc Γ ⟨rfl, rfl⟩
      rw [List.length_map, List.take_length]
      walk_at "w"
      refine ⟨trivial, ?_⟩
      walk_at "w"
      rw [ixN_ok (by omega : (0 : Int) ≤ i) (by rw [List.length_map]; omega), Int.toNat_natCast]
      walk_at "w"
      refine ⟨⟨by decide +kernel, shR⟩, ?_⟩
      walk_at "w"
      refine ⟨fun z => absurd z (by decide +kernel), fun _ => ?_⟩
      walk_at "w"
      rw [atI_ok (e := .none) q0 (by rw [List.length_map]; omega), getD_map (f := fun l : List Int => PyData.tuple (l.map .int)) [] (by omega)]
      walk_at "w"
      refine ⟨leS rfl, ?_⟩
      walk_at "w"
      have hlq := place_len S (((i : Int) - 1)).toNat
      refine ⟨le_size (by first | (rw [List.length_map, List.length_singleton]; omega) | (show 0 + 1 + _ < 1000; rw [List.length_map]; omega)), ?_⟩
      walk_at "w"
      rw [atI_ok (e := .none) q0 (by rw [List.length_map]; omega), getD_map (f := placeD) z0 (by omega)]
      walk_at "w"
      refine ⟨⟨shaped_kind (hK _ (by omega)).1, shY⟩, ?_⟩
      walk_at "w"
      refine ⟨fun h4 => ?_, fun h4 => ?_⟩
      · replace h4 : decide ((L.getD (((i : Int) - 1)).toNat z0).1 = "yard") = true := h4
        rw [if_pos (of_decide_eq_true h4)] at hk
        walk_at "w"
        refine ⟨S.getD (((i : Int) - 1)).toNat [] ++ [t], by rw [List.map_append]; rfl, fun js j1 j2 => ?_⟩
        walk_at "w"
        refine ⟨trivial, ?_⟩
        walk_at "w"
        rw [ixN_ok q0 (by rw [List.length_set, List.length_map]; omega)]
        walk_at "w"
        rw [set_map (fun l : List Int => PyData.tuple (l.map .int)), set_map (fun l : List Int => PyData.tuple (l.map .int)), sortI_eq (j1.trans (List.perm_append_singleton _ _)) j2]
        exact hk
      · replace h4 : decide ((L.getD (((i : Int) - 1)).toNat z0).1 = "yard") = false := h4
        rw [if_neg (of_decide_eq_false h4), if_neg (show ¬ isR "left" = true by decide +kernel)] at hk
        walk_at "w"
        refine ⟨trivial, ?_⟩
        walk_at "w"
        rw [ixN_ok q0 (by rw [List.length_set, List.length_map]; omega)]
        walk_at "w"
        rw [set_map (fun l : List Int => PyData.tuple (l.map .int))]
        rw [show (PyData.tuple ((S.getD (((i : Int) - 1)).toNat []).map .int ++ [.int t])) = (fun l : List Int => PyData.tuple (l.map .int)) (S.getD (((i : Int) - 1)).toNat [] ++ [t]) from by show _ = PyData.tuple _; rw [List.map_append]; rfl, set_map (fun l : List Int => PyData.tuple (l.map .int))]
        exact hk
  · have eq : nbT i "right" = ((i : Int) + 1) := rfl
    obtain ⟨q0, q1, _⟩ := can_room hat hc
    unfold goneT entT at hk
    rw [eq] at hk q0 q1
    walk_at "w"
    refine ⟨rfl, _, S, t, i, rfl, st_std S, by omega, hat, ?_⟩
    walk_at "w"
    refine ⟨rfl, ?_⟩
    walk_at "w"
    refine ⟨⟨by decide +kernel, shL⟩, ?_⟩
    walk_at "w"
    refine ⟨fun z => absurd z (by decide +kernel), fun _ => ?_⟩
    walk_at "w"
    rw [atI_ok (e := .none) (by omega : (0 : Int) ≤ i) (by rw [List.length_map]; omega), Int.toNat_natCast, getD_map (f := fun l : List Int => PyData.tuple (l.map .int)) [] hat.1]
    walk_at "w"
    refine ⟨fun j acc Γ => acc = (dropT ((S.getD i []).take j) t).map .int ∧ Γ = [some (.fz (lineD L)), some (.fz (stdD S)), some (.fz (.int t)), some (.fz (.str "right")), some (.fz (.int i)), some (.own (S.map fun l => .tuple (l.map .int))), some (.fz (.int ((i : Int) + 1))), none, none], ⟨rfl, rfl⟩, ?_, ?_⟩
    · rintro j acc Γ hlt ⟨rfl, rfl⟩
      rw [List.length_map] at hlt
      have ej : (fun j => ((S.getD i []).map PyData.int).getD j .none) j = .int ((S.getD i []).getD j 0) := getD_map_int hlt
      rw [ej]
      have hdl := drop_len ((S.getD i []).take j) t
      rw [List.length_take] at hdl
      walk_at "w"
      refine ⟨fun h1 => ?_, fun h1 => ?_⟩
      · walk_at "w"
        refine ⟨lt_size (by rw [List.length_map]; omega), ?_, rfl⟩
        rw [drop_at hlt, if_pos (ne_of_not h1), List.map_append]
        rfl
      · walk_at "w"
        refine ⟨?_, rfl⟩
        rw [drop_at hlt, if_neg (not_ne_of_not h1), List.append_nil]
    · rintro acc Γ ⟨rfl, rfl⟩
      rw [List.length_map, List.take_length]
      walk_at "w"
      refine ⟨trivial, ?_⟩
      walk_at "w"
      rw [ixN_ok (by omega : (0 : Int) ≤ i) (by rw [List.length_map]; omega), Int.toNat_natCast]
      walk_at "w"
      refine ⟨⟨by decide +kernel, shR⟩, ?_⟩
      walk_at "w"
      refine ⟨fun _ => ?_, fun z => absurd z (by decide +kernel)⟩
      walk_at "w"
      refine ⟨leS rfl, ?_⟩
      walk_at "w"
      rw [atI_ok (e := .none) q0 (by rw [List.length_map]; omega), getD_map (f := fun l : List Int => PyData.tuple (l.map .int)) [] (by omega)]
      walk_at "w"
      have hlq := place_len S (((i : Int) + 1)).toNat
      refine ⟨le_size (by first | (rw [List.length_map, List.length_singleton]; omega) | (show 0 + 1 + _ < 1000; rw [List.length_map]; omega)), ?_⟩
      walk_at "w"
      rw [atI_ok (e := .none) q0 (by rw [List.length_map]; omega), getD_map (f := placeD) z0 (by omega)]
      walk_at "w"
      refine ⟨⟨shaped_kind (hK _ (by omega)).1, shY⟩, ?_⟩
      walk_at "w"
      refine ⟨fun h4 => ?_, fun h4 => ?_⟩
      · replace h4 : decide ((L.getD (((i : Int) + 1)).toNat z0).1 = "yard") = true := h4
        rw [if_pos (of_decide_eq_true h4)] at hk
        walk_at "w"
        refine ⟨t :: S.getD (((i : Int) + 1)).toNat [], rfl, fun js j1 j2 => ?_⟩
        walk_at "w"
        refine ⟨trivial, ?_⟩
        walk_at "w"
        rw [ixN_ok q0 (by rw [List.length_set, List.length_map]; omega)]
        walk_at "w"
        rw [set_map (fun l : List Int => PyData.tuple (l.map .int)), set_map (fun l : List Int => PyData.tuple (l.map .int)), sortI_eq (j1) j2]
        exact hk
      · replace h4 : decide ((L.getD (((i : Int) + 1)).toNat z0).1 = "yard") = false := h4
        rw [if_neg (of_decide_eq_false h4), if_pos (show isR "right" = true by decide +kernel)] at hk
        walk_at "w"
        refine ⟨trivial, ?_⟩
        walk_at "w"
        rw [ixN_ok q0 (by rw [List.length_set, List.length_map]; omega)]
        walk_at "w"
        rw [set_map (fun l : List Int => PyData.tuple (l.map .int))]
        rw [show (PyData.tuple ([.int t] ++ (S.getD (((i : Int) + 1)).toNat []).map .int)) = (fun l : List Int => PyData.tuple (l.map .int)) (t :: S.getD (((i : Int) + 1)).toNat []) from rfl, set_map (fun l : List Int => PyData.tuple (l.map .int))]
        exact hk
end
end Kx
end
section
set_option maxHeartbeats 4000000
namespace Kx
open PySem PySem.Spec PyProof.Rows L2 Dl
local macro_rules | `(tactic| walk_at "dd") => `(tactic| simp only [dC, dVar, dBin, dTest, onB, dNotT, dAndT, dOrT, dAndV, dOrV, dNotV, dIf, dNil, dCons, dCB, dSeqI, dRng1, dRng2, dEnI, dZpI, escs, esc, fix1, fixN, mov, vw, vk, see, seeAll, dNext, dSeq, dBreak, dCont, dExpr, dRet, dRetN, dIfS, dSet, dMulti, putN, gdName, gdNil, gdCons, gdTup, dFor, dWhile, dCallP, dCallV, vws, isScal, onBox, dCallB, dTup, dLst, dLstO, dIx, onI2, dNegI, dAdd2, addD, dEq2, eqK, dIn2, dLen, onI1, onI12, dInt1, onInts, dToL, dToT, onBs, dMeth, isOwn, rhoApp, rhoPopAt, dStore, dRep2, dNoP, dPart, dSlice, wipeG, dYes, dLc, dIsi, dIsNT, dIsN, nonOf, dAug, dUnp, dKwP, pick, dNewD, dUpd, onPairs, dSortD, onIntsA, onOlAt, dAppT, dCallS, dLenS, dIxS, dLc2, lcTurn, List.getD_cons_zero, List.getD_cons_succ, Nat.zero_le, zl1, zl2, zl3, zl4, zl5, zl6, zl7, zl8, zl9, zl10, zl11, ls1, ls2, ls3, ls4, eq_self, Nat.reduceAdd, Nat.reduceEqDiff, itemsOf_list, itemsOf_tuple, Dl.get, Dl.put, List.length_cons, List.length_nil, List.map_cons, List.map_nil, id, true_and, and_true, true_implies, forall_const, Bool.not_true, Bool.not_false, reduceCtorEq, false_implies, Nat.zero_add, ite_true, ite_false, Bool.true_eq_false, Bool.false_eq_true])
local macro_rules | `(tactic| walk_at "w") => `(tactic| conv => whnf)
local macro_rules | `(tactic| walk_at "cb") => `(tactic| ((conv => whnf); refine ⟨rfl, rfl, Nat.zero_lt_succ _, ?_⟩; (conv => whnf)))
local macro_rules | `(tactic| walk_at "cp") => `(tactic| ((conv => whnf); refine ⟨rfl, ?_⟩; (conv => whnf)))
local macro_rules | `(tactic| walk_at "a") => `(tactic| ((conv => whnf); repeat (first | (refine ⟨leS rfl, ?_⟩; (conv => whnf)) | (refine ⟨trivial, ?_⟩; (conv => whnf)) | (refine ⟨rfl, ?_⟩; (conv => whnf)) | (refine ⟨Nat.zero_lt_succ _, ?_⟩; (conv => whnf)) | (refine ⟨(show (2 : Nat) < _ from ltN rfl), ?_⟩; (conv => whnf)) | (refine ⟨(show Dl.inR _ from (by unfold Dl.inR; omega)), ?_⟩; (conv => whnf)) | (refine ⟨fun _ => ?_, fun z => Bool.noConfusion (show true = false from z)⟩; (conv => whnf)) | (refine ⟨fun z => Bool.noConfusion (show false = true from z), fun _ => ?_⟩; (conv => whnf))); try (first | refine norm_ex (by dsimp only [Dl.put, Dl.wipeG, Dl.putN, puts]) ?_ | refine norm_lc (by dsimp only [Dl.put, Dl.wipeG, Dl.putN, puts]) ?_)))
local macro_rules | `(tactic| walk_at "b") => `(tactic| ((try dsimp only [puts, Dl.put, Dl.putN, Dl.wipeG]); walk_at "a"))
local macro_rules | `(tactic| walk_at "d") => `(tactic| ((walk_at "b"); dsimp only))
section
variable {P : Program} {w : World} {K : PySem.W.Frag} {mg : Str → Option Value} {base : Heap}
theorem st_mixing_spans (a0 a1 : O) : startG ["line", "many", "kind", "size", "span"] [a0, a1] = [some a0, some a1, none, none, none] := rfl
theorem can_mixing_spans (D : At K mg "mixing_spans" s_mixing_spans ["line", "many"]) (B : Blt mg) (c_spans : Can P w K mg base 2 "spans" ["line", "many"] (spP K 2 phSpans)) : Can P w K mg base (3) "mixing_spans" ["line", "many"] (spP K 2 phMix) := by
  refine D.canP sc_mixing_spans rfl fun f cdv A outer s H E hr => ⟨_, (ds_single (ds_ret (de_lc sc_mixing_spans.nd (di_zip rfl B.zip (da_cons (dv 0) (da_cons (de_canP c_spans hr (da_cons (dv 0) (da_cons (dv 1) da_nil))) da_nil))) (blkOk_by (own := [("span", 4), ("kind", 2), ("size", 3)]) (by rfl)) (fun _ _ _ _ _ => (dg_tup (n := 2) (dgs_cons (dg_tup (n := 2) (dgs_cons (dg_name 2 sc_mixing_spans.nd) (dgs_cons (dg_name 3 sc_mixing_spans.nd) dgs_nil))) (dgs_cons (dg_name 4 sc_mixing_spans.nd) dgs_nil)))) (fun _ _ _ _ _ => (dts_one (dt_w (dw_and (dt_eq hr (dv 2) de_str) (dw_and1 (dt_ge (dv 3) de_int)))))) (fun _ _ _ _ _ => (dv 4))))), fun ds Kt hl h => ?_⟩
  obtain ⟨d, L, m, rfl, hL, h5, hK, hk⟩ := h
  obtain ⟨k, ps, hi, hn, hp⟩ := id hL
  simp only [List.map_cons, List.map_nil]
  rw [st_mixing_spans]
  try walk_at "dd"
  refine ⟨d, L, m, rfl, hL, h5, ?_⟩
  try walk_at "dd"
  simp only [hi]
  try walk_at "dd"
  refine ⟨fun i acc Γ => acc = (mixs L i).map (spanD L m) ∧ Γ = [some (.fz d), some (.fz (.int m)), none, none, none], ?_, ?_, ?_⟩
  · exact ⟨rfl, rfl⟩
  · rintro i acc Γ hlt ⟨rfl, rfl⟩
    have hlt : i < L.length := by
      rw [List.length_map, List.length_range] at hlt
      omega
    have e : ((List.range L.length).map (spanD L m)).getD i .none = spanD L m i := by
      rw [List.getD_eq_getElem?_getD, List.getElem?_map, List.getElem?_range hlt]
      rfl
    rw [e]
    try walk_at "dd"
    obtain ⟨k', h2⟩ := hp i hlt
    simp only [h2]
    try walk_at "dd"
    have hm : mixT L i = (decide ((L.getD i z0).1 = "yard") && decide (2 ≤ (L.getD i z0).2)) := rfl
    refine ⟨⟨shaped_kind (hK i hlt).1, shY⟩, fun h1 => ⟨fun h3 => ⟨lt_size ?_, ?_⟩, fun h3 => ?_⟩, fun h1 => ?_⟩
    · rw [List.length_map]
      exact Nat.lt_of_le_of_lt (mixs_len L i) (by omega)
    · rw [mixs_at, hm, h1, h3, List.map_append]
      rfl
    · rw [mixs_at, hm, h1, h3, List.map_append]
      exact (List.append_nil _).symm
    · rw [mixs_at, hm, h1, List.map_append]
      exact (List.append_nil _).symm
  · rintro acc Γ ⟨rfl, rfl⟩
    try walk_at "dd"
    rw [List.length_map, List.length_range, hn, Nat.min_self]
    exact hk
theorem st_groups (a0 a1 : O) : startG ["line", "standing", "row", "first", "last"] [a0, a1] = [some a0, some a1, none, none, none] := rfl
theorem can_groups (D : At K mg "groups" s_groups ["line", "standing"]) (B : Blt mg) (c_order : Can P w K mg base 1 "order" ["line", "standing"] (spP K 2 phOrder)) (c_blocks : Can P w K mg base 5 "blocks" ["line", "many"] (spP K 2 phBlocks)) : Can P w K mg base (6) "groups" ["line", "standing"] (spP K 2 phGroups) := by
  refine D.canP sc_groups rfl fun f cdv A outer s H E hr => ⟨_, (ds_cons (ds_set 2 sc_groups.nd (de_canP c_order hr (da_cons (dv 0) (da_cons (dv 1) da_nil))))
    (ds_single (ds_ret (de_lc sc_groups.nd (di_seq (de_canP c_blocks hr (da_cons (dv 0) (da_cons (de_b fit_len call_len_seq rfl B.len (by decide +kernel) (da_cons (dv 2) da_nil)) da_nil)))) (blkOk_by (own := [("first", 3), ("last", 4)]) (by rfl)) (fun _ _ _ _ _ => (dg_tup (n := 2) (dgs_cons (dg_name 3 sc_groups.nd) (dgs_cons (dg_name 4 sc_groups.nd) dgs_nil)))) (fun _ _ _ _ _ => dts_nil) (fun _ _ _ _ _ => (de_ty fit_tuple call_tuple_of rfl B.tuple (by decide +kernel) (da_cons (de_b fit_sorted cr_sortedI rfl B.sorted (by decide +kernel) (da_cons (de_slice (dv 2) (dp_some (dv 3)) (dp_some (de_add (dv 4) de_int))) da_nil)) da_nil))))))), fun ds Kt hl h => ?_⟩
  obtain ⟨d, e, L, S, rfl, hL, hS, h5, hK, h9, hk⟩ := h
  simp only [List.map_cons, List.map_nil]
  rw [st_groups]
  walk_at "w"
  refine ⟨rfl, d, e, S, rfl, hS, h9, ?_⟩
  walk_at "w"
  refine ⟨rfl, d, L, S.flatten.length, by rw [List.length_map], hL, h5, hK, h9, ?_⟩
  walk_at "w"
  have hbl := blks_len L S.flatten.length
  refine ⟨fun i acc Γ => acc = ((blksT L S.flatten.length).take i).map (fun p => tupD (sortI (slN S.flatten p.1 (p.2 + 1)))) ∧ Γ = [some (.fz d), some (.fz e), some (.own (S.flatten.map .int)), none, none], ⟨rfl, rfl⟩, ?_, ?_⟩
  · rintro i acc Γ hi ⟨rfl, rfl⟩
    rw [List.length_map] at hi
    have eg : (fun i => (List.map pairD (blksT L S.flatten.length)).getD i PyData.none) i = pairD ((blksT L S.flatten.length).getD i (0, 0)) := getD_map (0, 0) hi
    rw [eg]
    walk_at "w"
    refine ⟨rfl, ?_⟩
    walk_at "w"
    refine ⟨fun _ => ?_, fun z => (by cases z)⟩
    walk_at "w"
    refine ⟨_, cut_nat S.flatten _ (((blksT L S.flatten.length).getD i (0, 0)).2 + 1), fun js j1 j2 => ?_⟩
    rw [sortI_eq j1 j2]
    walk_at "w"
    refine ⟨lt_size (by rw [List.length_map, List.length_take]; omega), ?_, rfl⟩
    rw [take_at (0, 0) hi, List.map_append]
    rfl
  · rintro acc Γ ⟨rfl, rfl⟩
    walk_at "w"
    rw [List.length_map, List.take_length]
    unfold grpsT at hk
    rw [List.map_map] at hk
    exact hk
theorem st_box (a0 a1 : O) : startG ["_law_script", "_law_k", "_law_core"] [a0, a1] = [some a0, some a1, none] := rfl
theorem can_box (D : At K mg "_law_box" s_box ["_law_script", "_law_k"]) (B : Blt mg) (c_cell_at : Can P w K mg base 1 "_law_cell_at" ["_law_script", "_law_k"] (spS K 1 phCell)) : Can P w K mg base (2) "_law_box" ["_law_script", "_law_k"] (spS K 1 phBox) := by
  refine D.canS sc_box rfl fun f cdv A outer s H E hr => ⟨_, (ds_cons (ds_set 2 sc_box.nd (de_canS c_cell_at hr (da_cons (dv 0) (da_cons (dv 1) da_nil))))
    (ds_single (ds_ret (de_lst (da_cons (de_mulI (de_b fit_abs call_abs rfl B.abs (by decide +kernel) (da_cons (dv 2) da_nil)) (de_ty fit_int1 call_int1 rfl B.int (by decide +kernel) (da_cons (de_ge (de_b fit_abs call_abs rfl B.abs (by decide +kernel) (da_cons (dv 2) da_nil)) (de_powI de_int de_int)) da_nil))) (da_cons (de_add (de_add (de_modI (dv 2) de_int) (de_mulI de_int (dv 1))) de_int) (da_cons de_int da_nil))))))), fun ns ds Kt hl h => ?_⟩
  obtain ⟨k, rfl, h0, h1, hk⟩ := h
  simp only [List.map_cons, List.map_nil]
  rw [st_box]
  try walk_at "dd"
  refine ⟨0, _, ns, rfl, rfl, ?_⟩
  try walk_at "dd"
  refine ⟨k, rfl, h0, fun v => ?_⟩
  try walk_at "dd"
  refine ⟨⟨by decide, by decide, by decide⟩, ?_, by decide, .inl ⟨by decide, by decide⟩, hk _ _ ?_ ?_ ?_⟩
  · refine .inr ⟨?_, ?_⟩ <;> (repeat' split) <;> decide
  · refine Int.mul_nonneg ?_ ?_ <;> split <;> omega
  · have := Int.emod_nonneg v (b := 2305843009213693951) (by decide)
    omega
  · have := Int.emod_lt_of_pos v (b := 2305843009213693951) (by decide)
    omega
theorem st_strewn (a0 a1 : O) : startG ["_law_box_here", "_law_some", "_law_left", "_law_found"] [a0, a1] = [some a0, some a1, none, none] := rfl
theorem can_strewn (D : At K mg "_law_strewn" s_strewn ["_law_box_here", "_law_some"]) (B : Blt mg) (c_take : Can P w K mg base 1 "_law_take" ["_law_box_here", "_law_span"] (spB K 1 phTake)) : Can P w K mg base (3) "_law_strewn" ["_law_box_here", "_law_some"] (spB K 1 phStrewn) := by
  refine D.canB sc_strewn rfl fun f cdv A outer s H E hr => ⟨_, (ds_cons (ds_par 2 3 sc_strewn.nd (da_cons (de_ty fit_list call_list_of rfl B.list (by decide +kernel) (da_cons (dv 1) da_nil)) (da_cons (de_lst da_nil) da_nil)))
    (ds_cons (ds_while (dt_ne hr (dv 2) (de_lst da_nil)) (ds_single (ds_expr (de_append 3 (pv 3) (da_cons (de_popAt 2 (pv 2) (da_cons (de_canB c_take hr (da_cons (dv 0) (da_cons (de_b fit_len call_len_seq rfl B.len (by decide +kernel) (da_cons (dv 2) da_nil)) da_nil))) da_nil)) da_nil)))))
    (ds_single (ds_ret (dv 3))))), fun p m ds Kt hl h => ?_⟩
  obtain ⟨d, k, xs, rfl, hi, h1, h2, h3⟩ := h
  simp only [List.map_cons, List.map_nil]
  rw [st_strewn]
  try walk_at "dd"
  simp only [hi]
  try walk_at "dd"
  refine ⟨fun n Γ => ∃ left found : List Int, n = left.length ∧ (found ++ left).Perm xs ∧ Γ = [some (.box p (m + found.length)), some (.fz d), some (.own (left.map .int)), some (.own (found.map .int))], ⟨_, xs, [], rfl, .refl _, rfl⟩, ?_⟩
  rintro n Γ ⟨left, found, rfl, hp, rfl⟩
  have hlen := hp.length_eq
  rw [List.length_append] at hlen
  try walk_at "dd"
  rw [eqv_nil]
  refine ⟨⟨shaped_ints left, shaped_nil⟩, fun hne => ⟨(left.map PyData.int).length, rfl, ?_, ?_, by omega, fun r r0 r1 => ?_⟩, fun hne => ?_⟩
  · cases left with
    | nil => simp at hne
    | cons x l => simp
  · rw [List.length_map]
    omega
  · rw [List.length_map] at r1
    try walk_at "dd"
    refine ⟨r0, by rw [List.length_map]; exact r1, by omega, lt_size (by rw [List.length_map]; omega), _, ?_, left.eraseIdx r.toNat, found ++ [left.getD r.toNat 0], rfl, ?_, ?_⟩
    · rw [List.length_eraseIdx]
      split <;> omega
    · refine List.Perm.trans ?_ hp
      rw [List.append_assoc]
      refine List.Perm.append_left _ ?_
      have hr : r.toNat < left.length := by omega
      rw [List.getD_eq_getElem?_getD, List.getElem?_eq_getElem hr]
      exact perm_erase hr
    · rw [getD_map_int (by omega), List.map_append, map_erase]
      simp only [List.length_append, List.length_singleton, List.map_cons, List.map_nil, Nat.add_assoc]
  · have e : left = [] := by
      cases left with
      | nil => rfl
      | cons x l => simp at hne
    subst e
    try walk_at "dd"
    rw [List.append_nil] at hp
    refine ⟨_, rfl, ?_⟩
    rw [hp.length_eq]
    exact h3 found hp
theorem st_numbers (a0 a1 a2 : O) : startG ["_law_box_here", "_law_rail_here", "_law_count_here", "_law_found", "_law_turn", "_law_at", "_law_k", "_law_label", "_law_top"] [a0, a1, a2] = [some a0, some a1, some a2, none, none, none, none, none, none] := rfl
theorem can_numbers (D : At K mg "_law_numbers" s_numbers ["_law_box_here", "_law_rail_here", "_law_count_here"]) (B : Blt mg) (c_of : Can P w K mg base 2 "_law_of" ["_law_box_here", "_law_some"] (spB K 1 phOf)) : Can P w K mg base (3) "_law_numbers" ["_law_box_here", "_law_rail_here", "_law_count_here"] (spB K 2 phNumbers) := by
  refine D.canB sc_numbers rfl fun f cdv A outer s H E hr => ⟨_, (ds_cons (ds_set 3 sc_numbers.nd (de_rep (de_lst (da_cons de_int da_nil)) (de_b fit_len call_len_seq rfl B.len (by decide +kernel) (da_cons (dv 1) da_nil))))
    (ds_cons (ds_for (di_range1 rfl B.range (da_cons (dv 2) da_nil)) (dg_name 4 sc_numbers.nd)
      (ds_cons (ds_set 5 sc_numbers.nd (de_canB c_of hr (da_cons (dv 0) (da_cons (de_lc sc_numbers.nd (di_enum rfl B.enumerate (da_cons (dv 1) da_nil)) (blkOk_by (own := [("_law_k", 6), ("_law_label", 7), ("_law_top", 8)]) (by rfl)) (fun _ _ _ _ _ => (dg_tup (n := 2) (dgs_cons (dg_name 6 sc_numbers.nd) (dgs_cons (dg_tup (n := 2) (dgs_cons (dg_name 7 sc_numbers.nd) (dgs_cons (dg_name 8 sc_numbers.nd) dgs_nil))) dgs_nil)))) (fun _ _ _ _ _ => (dts_one (dt_lt (de_ix (dv 3) (dv 6)) (dv 8)))) (fun _ _ _ _ _ => (dv 6))) da_nil))))
    (ds_single (ds_store 3 (pv 3) (dv 5) (de_add (de_ix (dv 3) (dv 5)) de_int)))))
    (ds_single (ds_ret (dv 3))))), fun p m ds Kt hl h => ?_⟩
  obtain ⟨d, L, c, rfl, hL, h5, hK, hcap, hc, hm, hk⟩ := h
  obtain ⟨k, ps, hi, hn, hp⟩ := id hL
  simp only [List.map_cons, List.map_nil]
  rw [st_numbers]
  walk_at "w"
  refine ⟨leS rfl, ?_⟩
  walk_at "w"
  rw [hi]
  walk_at "w"
  refine ⟨⟨by omega, by omega, le_size (by simp; omega)⟩, ?_⟩
  have e0 : (List.replicate ((ps.length : Int)).toNat [PyData.int 0]).flatten = (List.replicate L.length (0 : Int)).map .int := by
    rw [Int.toNat_natCast, hn]
    exact rep_flat _
  rw [e0]
  walk_at "w"
  refine ⟨⟨by omega, by omega⟩, fun i Γ => ∃ (N : List Int) (a b : Option O), fits L N ∧ N.sum = i ∧ Γ = [some (.box p (m + i)), some (.fz d), some (.fz (.int c)), some (.own (N.map .int)), a, b, none, none, none], ?_, ?_, ?_⟩
  · exact ⟨_, none, none, fits_zero hK, sum_zero _, rfl⟩
  · rintro i Γ hi2 ⟨N, a, b, hf, hs, rfl⟩
    have hi3 : i < c := by omega
    walk_at "w"
    rw [hi]
    walk_at "w"
    refine ⟨fun j acc Γ => acc = natsD ((List.range j).filter (roomT L N)) ∧ Γ = [some (.box p (m + i)), some (.fz d), some (.fz (.int c)), some (.own (N.map .int)), some (.fz (.int (0 + (i : Int)))), b, none, none, none], ⟨rfl, rfl⟩, ?_, ?_⟩
    · rintro j acc Γ hj ⟨rfl, rfl⟩
      have hj2 : j < L.length := by omega
      walk_at "w"
      refine ⟨rfl, ?_⟩
      walk_at "w"
      obtain ⟨k', h2⟩ := hp j hj2
      rw [h2]
      walk_at "w"
      refine ⟨rfl, ?_⟩
      walk_at "w"
      have hjN : j < N.length := by rw [hf.1]; exact hj2
      rw [atI_ok (e := PyData.none) (by omega : (0 : Int) ≤ j) (by rw [List.length_map]; omega), Int.toNat_natCast, getD_map_int hjN]
      walk_at "w"
      refine ⟨fun h1 => ?_, fun h1 => ?_⟩
      · walk_at "w"
        refine ⟨lt_size ?_, ?_, rfl⟩
        · rw [List.length_map]
          exact Nat.lt_of_le_of_lt (List.length_filter_le _ _) (by rw [List.length_range]; omega)
        · have h1 : roomT L N j = true := h1
          rw [filt_at, h1]
          simp [natsD]
      · have h1 : roomT L N j = false := h1
        refine ⟨?_, rfl⟩
        rw [filt_at, h1]
        simp
    · rintro acc Γ ⟨rfl, rfl⟩
      rw [hn]
      walk_at "cb"
      refine ⟨_, true, _, rfl, rfl, by rw [List.length_map]; exact room_ex hf (by omega), ?_, by omega, fun j hj => ?_⟩
      · rw [List.length_map]
        exact Nat.lt_of_le_of_lt (List.length_filter_le _ _) (by rw [List.length_range]; omega)
      · rw [List.length_map] at hj
        rw [getD_map 0 hj]
        have hm2 : ((List.range L.length).filter (roomT L N)).getD j 0 ∈ (List.range L.length).filter (roomT L N) := by
          rw [List.getD_eq_getElem?_getD, List.getElem?_eq_getElem hj]
          exact List.getElem_mem hj
        generalize ((List.range L.length).filter (roomT L N)).getD j 0 = at' at hm2
        obtain ⟨ha1, ha2⟩ := List.mem_filter.mp hm2
        have ha1 := List.mem_range.mp ha1
        have haN : at' < N.length := by rw [hf.1]; exact ha1
        walk_at "w"
        rw [atI_ok (e := PyData.none) (by omega : (0 : Int) ≤ at') (by rw [List.length_map]; omega), Int.toNat_natCast, getD_map_int haN]
        walk_at "w"
        refine ⟨trivial, ?_⟩
        walk_at "w"
        rw [ixN_ok (by omega : (0 : Int) ≤ at') (by rw [List.length_map]; omega), Int.toNat_natCast]
        have e9 : (N.map PyData.int).set at' (.int (N.getD at' 0 + 1)) = (N.set at' (N.getD at' 0 + 1)).map PyData.int := map_set' _ _ _ _
        walk_at "w"
        rw [e9]
        exact ⟨_, _, _, fits_set hf ha1 ha2, by rw [sum_set haN, hs]; omega, rfl⟩
  · rintro Γ ⟨N, a, b, hf, hs, rfl⟩
    walk_at "w"
    have e : ((c : Int)).toNat = c := Int.toNat_natCast c
    rw [e] at hs ⊢
    exact ⟨_, rfl, hk N hf hs⟩
theorem st_carts (a0 : O) : startG ["_law_park", "_law_found", "_law_some"] [a0] = [some a0, none, none] := rfl
theorem can_carts (D : At K mg "_law_carts" s_carts ["_law_park"]) (B : Blt mg) : Can P w K mg base (1) "_law_carts" ["_law_park"] (spP K 1 phCarts) := by
  refine D.canP sc_carts rfl fun f cdv A outer s H E hr => ⟨_, (ds_cons (ds_set 1 sc_carts.nd (de_lst da_nil))
    (ds_cons (ds_for (di_seq (dv 0)) (dg_name 2 sc_carts.nd)
      (ds_single (ds_set 1 sc_carts.nd (de_add (dv 1) (de_ty fit_list call_list_of rfl B.list (by decide +kernel) (da_cons (dv 2) da_nil))))))
    (ds_single (ds_ret (de_b fit_sorted cr_sortedI rfl B.sorted (by decide +kernel) (da_cons (dv 1) da_nil)))))), fun ds Kt hl h => ?_⟩
  obtain ⟨e, S, rfl, ⟨k, ps, hi, hn, hp⟩, h9, hk⟩ := h
  simp only [List.map_cons, List.map_nil]
  rw [st_carts]
  walk_at "w"
  refine ⟨Nat.zero_le _, ?_⟩
  walk_at "w"
  rw [hi]
  walk_at "w"
  refine ⟨fun i Γ => ∃ a, Γ = [some (.fz e), some (.own ((S.take i).flatten.map .int)), a], ⟨none, rfl⟩, ?_, ?_⟩
  · rintro i Γ hlt ⟨a, rfl⟩
    have hlt : i < S.length := by omega
    obtain ⟨k', h2⟩ := hp i hlt
    walk_at "w"
    rw [h2]
    walk_at "w"
    have hf := flat_len hlt (S.getD i []).length
    rw [List.length_append, List.take_length] at hf
    refine ⟨by rw [List.length_map, List.length_map]; exact le_size (by omega), ?_⟩
    walk_at "w"
    rw [flat_at hlt, List.map_append]
    exact ⟨_, rfl⟩
  · rintro Γ ⟨a, rfl⟩
    rw [hn, List.take_length]
    walk_at "w"
    refine ⟨_, rfl, fun js j1 j2 => ?_⟩
    walk_at "w"
    rw [sortI_eq j1 j2]
    exact hk
theorem st_hops (a0 a1 : O) : startG ["_law_rail_here", "_law_park", "_law_found", "_law_cart", "_law_way"] [a0, a1] = [some a0, some a1, none, none, none] := rfl
theorem can_hops (D : At K mg "_law_hops" s_hops ["_law_rail_here", "_law_park"]) (B : Blt mg) (c_carts : Can P w K mg base 1 "_law_carts" ["_law_park"] (spP K 1 phCarts)) (c_can : Can P w K mg base 2 "_law_can" ["_law_rail_here", "_law_park", "_law_cart", "_law_way"] (spP K 4 phCan)) : Can P w K mg base (3) "_law_hops" ["_law_rail_here", "_law_park"] (spP K 2 phHops) := by
  refine D.canP sc_hops rfl fun f cdv A outer s H E hr => ⟨_, (ds_cons (ds_set 2 sc_hops.nd (de_lst da_nil))
    (ds_cons (ds_for (di_seq (de_canP c_carts hr (da_cons (dv 1) da_nil))) (dg_name 3 sc_hops.nd)
      (ds_single (ds_set 2 sc_hops.nd (de_add (dv 2) (de_lc sc_hops.nd (di_seq (de_tup (da_cons de_str (da_cons de_str da_nil)))) (blkOk_by (own := [("_law_way", 4)]) (by rfl)) (fun _ _ _ _ _ => (dg_name 4 sc_hops.nd)) (fun _ _ _ _ _ => (dts_one (dt_val (de_canP c_can hr (da_cons (dv 0) (da_cons (dv 1) (da_cons (dv 3) (da_cons (dv 4) da_nil)))))))) (fun _ _ _ _ _ => (de_tup (da_cons (dv 3) (da_cons (dv 4) da_nil)))))))))
    (ds_single (ds_ret (dv 2))))), fun ds Kt hl h => ?_⟩
  obtain ⟨L, S, rfl, hl', h5, hK, h9, hk⟩ := h
  simp only [List.map_cons, List.map_nil]
  rw [st_hops]
  walk_at "w"
  refine ⟨Nat.zero_le _, ?_⟩
  walk_at "w"
  refine ⟨rfl, _, S, rfl, st_std S, h9, ?_⟩
  walk_at "w"
  refine ⟨fun i Γ => ∃ a : Option O, Γ = [some (.fz (lineD L)), some (.fz (stdD S)), some (.own ((((sortI S.flatten).take i).map (hop2 L S)).flatten)), a, none], ⟨none, rfl⟩, ?_, ?_⟩
  · rintro i Γ hlt ⟨a, rfl⟩
    rw [List.length_map] at hlt
    have ej : (fun i => ((sortI S.flatten).map PyData.int).getD i .none) i = .int ((sortI S.flatten).getD i 0) := getD_map_int hlt
    rw [ej]
    have ht : (sortI S.flatten).getD i 0 ∈ S.flatten := (sortI_perm _).mem_iff.mp (getD_memI hlt)
    have hl2 := hops_len L S ((sortI S.flatten).take i)
    rw [List.length_take] at hl2
    have hsl := sortI_len S.flatten
    walk_at "w"
    refine ⟨leS rfl, ?_⟩
    walk_at "w"
    refine ⟨fun j acc Γ => acc = hopJ L S ((sortI S.flatten).getD i 0) j ∧ Γ = [some (.fz (lineD L)), some (.fz (stdD S)), some (.own ((((sortI S.flatten).take i).map (hop2 L S)).flatten)), some (.fz (.int ((sortI S.flatten).getD i 0))), none], ⟨rfl, rfl⟩, ?_, ?_⟩
    · rintro j acc Γ hj ⟨rfl, rfl⟩
      obtain ⟨s, es, hs, hjn⟩ := hop_side L S ((sortI S.flatten).getD i 0) hj
      rw [es]
      have hjl := hopJ_len L S ((sortI S.flatten).getD i 0) hj
      walk_at "w"
      refine ⟨rfl, L, S, _, s, rfl, hl', h5, hK, hs, ht, ?_⟩
      walk_at "w"
      refine ⟨fun h1 => ?_, fun h1 => ?_⟩
      · walk_at "w"
        refine ⟨leS rfl, ?_⟩
        walk_at "w"
        refine ⟨lt_size (by omega), ?_, rfl⟩
        rw [hjn, if_pos h1]
      · walk_at "w"
        refine ⟨?_, rfl⟩
        rw [hjn, if_neg (by rw [h1]; exact Bool.false_ne_true), List.append_nil]
    · rintro acc Γ ⟨rfl, rfl⟩
      have h22 := hop2_len L S ((sortI S.flatten).getD i 0)
      walk_at "w"
      refine ⟨le_size (by show _ + (hop2 L S _).length < 1000; omega), ?_⟩
      walk_at "w"
      rw [take_at 0 hlt, List.map_append, List.flatten_append]
      show ∃ a : Option O, [_, _, some (O.own (_ ++ hop2 L S _)), _, _] = [_, _, some (O.own (_ ++ (hop2 L S _ ++ []))), a, _]
      rw [List.append_nil]
      exact ⟨_, rfl⟩
  · rintro Γ ⟨a, rfl⟩
    walk_at "w"
    rw [List.length_map, List.take_length]
    exact hk
end
end Kx
end
section
set_option maxHeartbeats 4000000
namespace Kx
open PySem PySem.Spec PyProof.Rows L2 Dl
def wrd {α : Type} (A : List α) : Nat → List (List α)
  | 0 => [[]]
  | n + 1 => (A.map fun a => (wrd A n).map (a :: ·)).flatten
theorem wrd_len {α : Type} (A : List α) : ∀ n, (wrd A n).length = A.length ^ n
  | 0 => rfl
  | n + 1 => by
    show ((A.map fun a => (wrd A n).map (a :: ·)).flatten).length = _
    rw [List.length_flatten, List.map_map, Nat.pow_succ, ← wrd_len A n]
    generalize wrd A n = W
    induction A with
    | nil => rw [List.map_nil, List.length_nil, Nat.mul_zero]; rfl
    | cons a A ih =>
      rw [List.map_cons, List.sum_cons, ih, List.length_cons]
      show (W.map (a :: ·)).length + _ = _
      rw [List.length_map, Nat.mul_succ, Nat.add_comm]
theorem wrd_mem {α : Type} {A : List α} : ∀ {n : Nat} {l : List α}, l.length = n → (∀ x ∈ l, x ∈ A) → l ∈ wrd A n
  | 0, [], _, _ => List.mem_cons_self
  | n + 1, a :: l, h, k => List.mem_flatten.mpr ⟨_, List.mem_map.mpr ⟨a, k a List.mem_cons_self, rfl⟩, List.mem_map.mpr ⟨l, wrd_mem (Nat.succ.inj h) fun x hx => k x (List.mem_cons_of_mem _ hx), rfl⟩⟩
theorem nodup_le {α : Type} [DecidableEq α] : ∀ {l m : List α}, l.Nodup → (∀ x ∈ l, x ∈ m) → l.length ≤ m.length
  | [], _, _, _ => Nat.zero_le _
  | a :: l, m, hn, h => by
    obtain ⟨h1, h2⟩ := List.nodup_cons.mp hn
    have ha : a ∈ m := h a List.mem_cons_self
    have := nodup_le (l := l) (m := m.erase a) h2 fun x hx => (List.mem_erase_of_ne fun z => h1 (by rw [← z]; exact hx)).mpr (h x (List.mem_cons_of_mem _ hx))
    rw [List.length_erase_of_mem ha] at this
    have hp := List.length_pos_of_mem ha
    rw [List.length_cons]
    omega
theorem cut_inj : ∀ (k : Nat) (S T : Std), S.length = k + 1 → T.length = k + 1 → S.flatten = T.flatten → (S.take k).map List.length = (T.take k).map List.length → S = T
  | 0, [a], [b], _, _, h, _ => by
    rw [List.flatten_cons, List.flatten_cons, List.flatten_nil, List.append_nil, List.append_nil] at h
    rw [h]
  | k + 1, a :: S, b :: T, h1, h2, h, g => by
    rw [List.take_succ_cons, List.take_succ_cons, List.map_cons, List.map_cons] at g
    obtain ⟨g1, g2⟩ := List.cons.inj g
    rw [List.flatten_cons, List.flatten_cons] at h
    obtain ⟨e1, e2⟩ := List.append_inj h g1
    rw [e1, cut_inj k S T (Nat.succ.inj h1) (Nat.succ.inj h2) e2 g2]
theorem nodup_on {α β : Type} {g : α → β} : ∀ {l : List α}, l.Nodup → (∀ a ∈ l, ∀ b ∈ l, g a = g b → a = b) → (l.map g).Nodup
  | [], _, _ => List.nodup_nil
  | a :: l, hn, h => by
    obtain ⟨h1, h2⟩ := List.nodup_cons.mp hn
    refine List.nodup_cons.mpr ⟨fun z => ?_, nodup_on h2 fun x hx y hy => h x (List.mem_cons_of_mem _ hx) y (List.mem_cons_of_mem _ hy)⟩
    obtain ⟨b, hb, e⟩ := List.mem_map.mp z
    have := h b (List.mem_cons_of_mem _ hb) a List.mem_cons_self e
    exact h1 (by rw [← this]; exact hb)
theorem prod_len {α β : Type} (A : List α) (B : List β) : ((A.map fun a => B.map fun b => (a, b)).flatten).length = A.length * B.length := by
  induction A with
  | nil => rw [List.length_nil, Nat.zero_mul]; rfl
  | cons a A ih =>
    rw [List.map_cons, List.flatten_cons, List.length_append, ih, List.length_map, List.length_cons, Nat.succ_mul, Nat.add_comm]
theorem part_le : ∀ {S : Std} {a : List Int}, a ∈ S → a.length ≤ S.flatten.length
  | b :: S, a, h => by
    rw [List.flatten_cons, List.length_append]
    rcases List.mem_cons.mp h with rfl | h
    · omega
    · have := part_le h
      omega
/-- at most n^n (n+1)^k standings of n trains on k + 1 places -/
theorem stands_le {f : List Int} {k n : Nat} (hf : f.length = n) {l : List Std} (hn : l.Nodup) (h : ∀ S ∈ l, S.length = k + 1 ∧ S.flatten.Perm f) : l.length ≤ n ^ n * (n + 1) ^ k := by
  have h1 : (l.map fun S : Std => (S.flatten, (S.take k).map List.length)).Nodup := nodup_on hn fun S hS T hT e => by
    have e1 := congrArg Prod.fst e
    have e2 := congrArg Prod.snd e
    exact cut_inj k S T (h S hS).1 (h T hT).1 e1 e2
  have h2 := nodup_le (m := ((wrd f n).map fun a => (wrd (List.range (n + 1)) k).map fun b => (a, b)).flatten) h1 fun x hx => by
    obtain ⟨S, hS, rfl⟩ := List.mem_map.mp hx
    obtain ⟨a1, a2⟩ := h S hS
    refine List.mem_flatten.mpr ⟨_, List.mem_map.mpr ⟨S.flatten, wrd_mem (by rw [a2.length_eq, hf]) fun y hy => a2.mem_iff.mp hy, rfl⟩, List.mem_map.mpr ⟨(S.take k).map List.length, wrd_mem (by rw [List.length_map, List.length_take]; omega) fun y hy => ?_, rfl⟩⟩
    obtain ⟨a, ha, rfl⟩ := List.mem_map.mp hy
    have := part_le (List.mem_of_mem_take ha)
    rw [a2.length_eq, hf] at this
    exact List.mem_range.mpr (by omega)
  rw [List.length_map, prod_len, wrd_len, wrd_len, hf, List.length_range] at h2
  exact h2
end Kx
end
section
set_option maxHeartbeats 4000000
namespace Kx
open PySem PySem.Spec PyProof.Rows L2 Dl
theorem slide_ex {L : Lin} {r G : List Int} (hK : ∀ i, i < L.length → 1 ≤ (L.getD i z0).2) (g : CutOk L r.length G) (hn : r.Nodup) (h0 : ∀ x ∈ r, 0 ≤ x ∧ x < 2 ^ 40) : ∀ (n : Nat) (C : List Int), CutOk L r.length C → dist C G = n → ∃ p, Tour L (stdC L r C) (stdC L r G) p ∧ p.length = n := fun n => by
  induction n with
  | zero =>
    intro C h e
    have : C = G := dist_zero (by rw [h.len, g.len]) e
    subst this
    exact ⟨[], tour_nil (scn_C h hn h0), rfl⟩
  | succ n ih =>
    intro C h e
    have hne : C ≠ G := fun z => by
      subst z
      rw [dist_self] at e
      cases e
    obtain ⟨a, ha, q | q⟩ := goes h g hK hne
    · obtain ⟨q1, q2, q3⟩ := q
      obtain ⟨m1, m2, m3, m4⟩ := cross_right h hn h0 ha q2 q3
      have hl : a + 1 < C.length := by rw [h.len]; omega
      have hd := dist_set (C := C) (G := G) (k := a + 1) (cu C (a + 1) - 1) hl (by rw [g.len]; omega)
      obtain ⟨p, T, lp⟩ := ih _ m4 (by omega)
      have T1 := tour_snoc (tour_nil (scn_C h hn h0)) m1 (.inr rfl) m2
      rw [m3] at T1
      exact ⟨_, tour_app T1 T, by rw [List.length_append, lp]; show 1 + n = n + 1; omega⟩
    · obtain ⟨q1, q2, q3⟩ := q
      obtain ⟨m1, m2, m3, m4⟩ := cross_left h hn h0 ha q2 q3
      have hl : a + 1 < C.length := by rw [h.len]; omega
      have hd := dist_set (C := C) (G := G) (k := a + 1) (cu C (a + 1) + 1) hl (by rw [g.len]; omega)
      obtain ⟨p, T, lp⟩ := ih _ m4 (by omega)
      have T1 := tour_snoc (tour_nil (scn_C h hn h0)) m1 (.inl rfl) m2
      rw [m3] at T1
      exact ⟨_, tour_app T1 T, by rw [List.length_append, lp]; show 1 + n = n + 1; omega⟩
end Kx
end
section
set_option maxHeartbeats 4000000
namespace Kx
open PySem PySem.Spec PyProof.Rows L2 Dl
theorem near_all {L : Lin} {m : Nat} {C : List Int} (h : CutOk L m C) (hs : ∀ i, i < L.length → 1 ≤ (L.getD i z0).2) {p : Nat} {f b : Int} : ∀ (lo : Nat) (N : List Int), NearOk L m C p f b lo (p + 1) N → ∃ N', NearOk L m C p f b 0 (p + 1) N'
  | 0, N, n => ⟨N, n⟩
  | lo + 1, N, n => near_all h hs lo _ (near_left h hs n)
theorem near_up {L : Lin} {m : Nat} {C : List Int} (h : CutOk L m C) (hs : ∀ i, i < L.length → 1 ≤ (L.getD i z0).2) {p : Nat} {f b : Int} : ∀ (k hi : Nat) (N : List Int), L.length - hi = k → NearOk L m C p f b 0 hi N → ∃ N', NearOk L m C p f b 0 L.length N'
  | 0, hi, N, e, n => by
    have : hi = L.length := by have := n.hl; omega
    subst this
    exact ⟨N, n⟩
  | k + 1, hi, N, e, n => near_up h hs k (hi + 1) _ (by omega) (near_right h hs (by omega) n)
theorem meets_ex {L : Lin} {m : Nat} {C : List Int} (h : CutOk L m C) (hK : kindsOk L) {j : Nat} (hj : j + 1 < m) (hJ : jnT L m j = true) : ∃ N, MeetsC L m j N := by
  obtain ⟨p, hp, hx, h1, h2⟩ := jn_iff.mp hJ
  have hm : mixT L p = (decide ((L.getD p z0).1 = "yard") && decide (2 ≤ (L.getD p z0).2)) := rfl
  rw [hm] at hx
  obtain ⟨x1, x2⟩ := Bool.and_eq_true_iff.mp hx
  have x1 := of_decide_eq_true x1
  have x2 := of_decide_eq_true x2
  have e1 : lowL L m p = lowT L m p := by unfold lowL lowT; rw [caps_drop]
  have e2 : highL L m p ≤ highT L p := by unfold highL highT; split <;> omega
  rw [e1] at h1
  have hs : ∀ i, i < L.length → 1 ≤ (L.getD i z0).2 := fun i hi => (hK i hi).2
  obtain ⟨⟨b1, b2, b3, b4, b5, b6⟩, b7, b8⟩ := meet_bounds h hK hp x2 h1 (by omega) hj rfl rfl
  obtain ⟨N1, n1⟩ := near_all h hs p _ (near_start h hp b1 b2 b3 b4 b5 b6)
  obtain ⟨N2, n2⟩ := near_up h hs _ (p + 1) N1 rfl n1
  exact ⟨N2, near_end n2, p, hp, x1, by rw [n2.at_]; exact b7, by rw [n2.at1]; exact b8⟩
end Kx
end
section
set_option maxHeartbeats 4000000
namespace Kx
open PySem PySem.Spec PyProof.Rows L2 Dl
/-- a row between any two standings with the same trains and equal groups -/
theorem row_ex {L : Lin} {S1 S2 : Std} (hK : kindsOk L) (h5 : L.length ≤ 40) (hS1 : Scn L S1) (hS2 : Scn L S2) (l1 : S1.flatten.length ≤ 40) (hp : S1.flatten.Perm S2.flatten) (hg : grpsT L S1.flatten = grpsT L S2.flatten) : ∃ path, Tour L S1 S2 path := by
  have hs : ∀ i, i < L.length → 1 ≤ (L.getD i z0).2 := fun i hi => (hK i hi).2
  have hn := hS2.nodup
  have h0 := hS2.nonneg
  have l2 : S2.flatten.length ≤ 40 := hp.length_eq ▸ l1
  have main : ∀ (m : Nat) (C r : List Int) (path : Row), RowSt L S1 S2.flatten C r path → invs (r.map (rk S2.flatten)) = m → ∃ path', Tour L S1 S2 path' := fun m => by
    induction m using Nat.strongRecOn with
    | _ m ih =>
      intro C r path hR e
      have lr : r.length ≤ 40 := by rw [hR.perm.length_eq]; exact l2
      have hnr := hR.perm.nodup_iff.mpr hn
      have h0r : ∀ x ∈ r, 0 ≤ x ∧ x < 2 ^ 40 := fun x hx => h0 x (hR.perm.mem_iff.mp hx)
      by_cases hd : ∃ j, j + 1 < r.length ∧ rk S2.flatten (r.getD (j + 1) 0) < rk S2.flatten (r.getD j 0)
      · obtain ⟨j, hj, hd⟩ := hd
        obtain ⟨N, hM⟩ := meets_ex hR.ok hK hj (descent_joint hR.perm hn hR.grp hj hd)
        obtain ⟨p2, t2, lp⟩ := slide_ex hs hM.ok hnr h0r _ C hR.ok rfl
        obtain ⟨hR2, hlt⟩ := row_step hR hn h0 hj hd hM t2 (lp ▸ dist_le hR.ok hM.ok h5 lr)
        exact ih _ (e ▸ hlt) _ _ _ hR2 rfl
      · have hno : ∀ j, j + 1 < r.length → rk S2.flatten (r.getD j 0) ≤ rk S2.flatten (r.getD (j + 1) 0) := fun j hj => Int.not_lt.mp fun z => hd ⟨j, hj, z⟩
        have hC2 : CutOk L r.length (cutsT S2) := by rw [hR.perm.length_eq]; exact cuts_ok hS2
        obtain ⟨p2, t2, lp⟩ := slide_ex hs hC2 hnr h0r _ C hR.ok rfl
        exact ⟨_, (row_end hR hS2 hn hno t2 (lp ▸ dist_le hR.ok hC2 h5 lr)).1⟩
  exact main _ _ _ _ (row_start hS1 hn h0 l2 hp hg) rfl
/-- what a row reaches: the standings with the same trains and equal groups -/
theorem reach_iff {L : Lin} {S S' : Std} (hK : kindsOk L) (h5 : L.length ≤ 40) (hS : Scn L S) (l1 : S.flatten.length ≤ 40) : (∃ r, Tour L S S' r) ↔ Scn L S' ∧ S'.flatten.Perm S.flatten ∧ grpsT L S'.flatten = grpsT L S.flatten := by
  constructor
  · rintro ⟨r, T⟩
    exact ⟨T.scn, T.perm, tour_grps hS T⟩
  · rintro ⟨h1, h2, h3⟩
    exact row_ex hK h5 hS h1 l1 h2.symm h3.symm
/-- what the search has found -/
theorem rch_iff {L : Lin} {S S' : Std} {Fs : Fnd} (hK : kindsOk L) (h5 : L.length ≤ 40) (hS : Scn L S) (l1 : S.flatten.length ≤ 40) (R : Rch L S Fs) : S' ∈ Fs.map (·.1) ↔ Scn L S' ∧ S'.flatten.Perm S.flatten ∧ grpsT L S'.flatten = grpsT L S.flatten := by
  rw [← reach_iff hK h5 hS l1]
  constructor
  · intro h
    obtain ⟨p, hp, rfl⟩ := List.mem_map.mp h
    obtain ⟨r, T, _⟩ := R.sound p hp
    exact ⟨r, T⟩
  · rintro ⟨r, T⟩
    obtain ⟨v, _, hm⟩ := R.full _ _ T
    exact List.mem_map_of_mem (f := (·.1)) hm
/-- the bound for small scenes: at most four places and four trains -/
theorem reach_bound {L : Lin} {S : Std} (hL1 : 1 ≤ L.length) (hL : L.length ≤ 4) (hn : S.flatten.length ≤ 4) : ∀ l : List Std, l.Nodup → (∀ S' ∈ l, ∃ r, Tour L S S' r) → l.length ≤ 32000 := fun l hl h => by
  obtain ⟨k, ek⟩ : ∃ k, L.length = k + 1 := ⟨L.length - 1, by omega⟩
  have b := stands_le (f := S.flatten) (k := k) rfl hl fun S' h' => by
    obtain ⟨r, T⟩ := h S' h'
    exact ⟨by rw [T.scn.len, ek], T.perm⟩
  have b1 : S.flatten.length ^ S.flatten.length ≤ 4 ^ 4 := Nat.le_trans (Nat.pow_le_pow_left hn _) (Nat.pow_le_pow_right (by decide) hn)
  have b2 : (S.flatten.length + 1) ^ k ≤ 5 ^ 3 := Nat.le_trans (Nat.pow_le_pow_left (show S.flatten.length + 1 ≤ 5 by omega) _) (Nat.pow_le_pow_right (by decide) (by omega))
  exact Nat.le_trans b (Nat.le_trans (Nat.mul_le_mul b1 b2) (by decide))
end Kx
end
section
set_option maxHeartbeats 4000000
namespace Kx
open PySem PySem.Spec PyProof.Rows L2 Dl
theorem put_one {α : Type} [DecidableEq α] {l : List α} {t : α} {i : Nat} (ht : t ∈ l) (hi : i < l.length) : ∃ ys : List α, ys.Perm l ∧ ys[i]? = some t := by
  have hl : (l.erase t).length = l.length - 1 := List.length_erase_of_mem ht
  refine ⟨(l.erase t).take i ++ t :: (l.erase t).drop i, ?_, ?_⟩
  · refine List.perm_middle.trans ?_
    rw [List.take_append_drop]
    exact (List.perm_cons_erase ht).symm
  · have e : ((l.erase t).take i).length = i := by rw [List.length_take]; omega
    rw [List.getElem?_append_right (by omega), e, Nat.sub_self]
    rfl
theorem put_two {α : Type} [DecidableEq α] {l : List α} {s t : α} {i : Nat} (hs : s ∈ l) (ht : t ∈ l) (hne : s ≠ t) (hi : i + 1 < l.length) : ∃ ys : List α, ys.Perm l ∧ ys[i]? = some s ∧ ys[i + 1]? = some t := by
  have ht2 : t ∈ l.erase s := (List.mem_erase_of_ne (Ne.symm hne)).mpr ht
  have h1 : (l.erase s).length = l.length - 1 := List.length_erase_of_mem hs
  have h2 : ((l.erase s).erase t).length = l.length - 1 - 1 := by rw [List.length_erase_of_mem ht2, h1]
  refine ⟨((l.erase s).erase t).take i ++ s :: t :: ((l.erase s).erase t).drop i, ?_, ?_, ?_⟩
  · refine List.perm_middle.trans ?_
    refine ((List.perm_middle (a := t)).cons s).trans ?_
    rw [List.take_append_drop]
    exact ((List.perm_cons_erase ht2).symm.cons s).trans (List.perm_cons_erase hs).symm
  · have e : (((l.erase s).erase t).take i).length = i := by rw [List.length_take]; omega
    rw [List.getElem?_append_right (by omega), e, Nat.sub_self]
    rfl
  · have e : (((l.erase s).erase t).take i).length = i := by rw [List.length_take]; omega
    rw [List.getElem?_append_right (by omega), e, show i + 1 - i = 1 by omega]
    rfl
theorem blk_join {L : Lin} {m b : Nat} (hb : b < (blksT L m).length) {j : Nat} (h1 : ((blksT L m).getD b (0, 0)).1 ≤ j) (h2 : j < ((blksT L m).getD b (0, 0)).2) : jnT L m j = true :=
  (blkF_tail (jnT L m) m).2 _ (blk_mem hb) j h1 h2
theorem arr_block {L : Lin} {r ys : List Int} {b : Nat} (hb : b < (blksT L r.length).length) (hy : ys.Perm (slN r ((blksT L r.length).getD b (0, 0)).1 (((blksT L r.length).getD b (0, 0)).2 + 1))) :
    ∃ r' : List Int, r'.Perm r ∧ grpsT L r' = grpsT L r ∧ ∀ i, i < ys.length → r'[((blksT L r.length).getD b (0, 0)).1 + i]? = ys[i]? := by
  have hm := blks_mem (blk_mem hb)
  have hj : ∀ j, ((blksT L r.length).getD b (0, 0)).1 ≤ j → j < ((blksT L r.length).getD b (0, 0)).2 → jnT L r.length j = true := fun j h1 h2 => blk_join hb h1 h2
  generalize (blksT L r.length).getD b (0, 0) = p at hm hj hy
  obtain ⟨a, z⟩ := p
  dsimp only at hm hj hy ⊢
  obtain ⟨haz, hzm⟩ := hm
  have e0 : r.take a ++ (slN r a (z + 1) ++ r.drop (z + 1)) = r := by
    unfold slN
    have q : r.drop (z + 1) = (r.drop a).drop (z + 1 - a) := by rw [List.drop_drop]; congr 1; omega
    rw [q, List.take_append_drop, List.take_append_drop]
  have la : (r.take a).length = a := by rw [List.length_take]; omega
  have ls : (slN r a (z + 1)).length = z + 1 - a := by unfold slN; rw [List.length_take, List.length_drop]; omega
  have ly : ys.length = z + 1 - a := by rw [hy.length_eq, ls]
  have hp : (r.take a ++ (ys ++ r.drop (z + 1))).Perm r := by
    have q : (r.take a ++ (ys ++ r.drop (z + 1))).Perm (r.take a ++ (slN r a (z + 1) ++ r.drop (z + 1))) := List.Perm.append_left _ (hy.append_right _)
    rw [e0] at q
    exact q
  refine ⟨r.take a ++ (ys ++ r.drop (z + 1)), hp, ?_, fun i hi => ?_⟩
  · unfold grpsT
    rw [hp.length_eq]
    refine ((blkF_cut (jnT L r.length) _ r r.length).mpr fun c hc h => ?_)
    by_cases hca : c ≤ a
    · rw [List.take_append_of_le_length (by omega), List.take_take, Nat.min_eq_left hca]
    · have hcz : z + 1 ≤ c := by
        rcases h with h | h
        · omega
        · by_cases q : z + 1 ≤ c
          · exact q
          · rw [hj (c - 1) (by omega) (by omega)] at h
            cases h
      have e1 : (r.take a ++ (ys ++ r.drop (z + 1))).take c = r.take a ++ (ys ++ (r.drop (z + 1)).take (c - (z + 1))) := by
        rw [List.take_append, la, List.take_of_length_le (l := r.take a) (by omega), List.take_append, ly, List.take_of_length_le (l := ys) (by omega)]
        congr 3
        omega
      have e2 : r.take c = r.take a ++ (slN r a (z + 1) ++ (r.drop (z + 1)).take (c - (z + 1))) := by
        have q := congrArg (List.take c) e0
        rw [← q, List.take_append, la, List.take_of_length_le (l := r.take a) (by omega), List.take_append, ls, List.take_of_length_le (l := slN r a (z + 1)) (by omega)]
        congr 3
        omega
      rw [e1, e2]
      exact List.Perm.append_left _ (hy.append_right _)
  · rw [List.getElem?_append_right (by omega), la, show a + i - a = i by omega, List.getElem?_append_left hi]
theorem pos_cut {L : Lin} {m : Nat} {C : List Int} (h : CutOk L m C) (hK : kindsOk L) {p q : Nat} (hp : p < L.length) (hq : q < m) (h1 : lowT L m p ≤ (q : Int)) (h2 : (q : Int) < highT L p) : ∃ N, CutOk L m N ∧ cu N p ≤ (q : Nat) ∧ (q : Int) + 1 ≤ cu N (p + 1) := by
  have hs : ∀ i, i < L.length → 1 ≤ (L.getD i z0).2 := fun i hi => (hK i hi).2
  have hz := hs p hp
  have c0 := cap_cut h (Nat.zero_le L.length) (Nat.le_refl _)
  rw [h.zero, h.top, caps_all, caps_zero] at c0
  have c1 := caps_mono hK (Nat.zero_le p)
  rw [caps_zero] at c1
  have c2 := caps_take_le hK (p + 1)
  have c3 := caps_take hp
  have e1 : highT L p = caps (L.take (p + 1)) := rfl
  rw [e1] at h2
  generalize hf : max (lowT L m p) ((q : Int) + 1 - (L.getD p z0).2) = f
  generalize hb : min (f + (L.getD p z0).2) (m : Int) = b
  have ⟨⟨b1, b2, b3, b4, b5, b6⟩, b7, b8⟩ : (0 ≤ f ∧ f ≤ b ∧ b ≤ m ∧ b - f ≤ (L.getD p z0).2 ∧ f ≤ caps (L.take p) ∧ (m : Int) - (caps L - caps (L.take (p + 1))) ≤ b) ∧ f ≤ q ∧ (q : Int) + 1 ≤ b := by
    unfold lowT at h1 hf
    split at h1
    · rename_i x
      rw [if_pos x] at hf
      omega
    · rename_i x
      rw [if_neg x] at hf
      omega
  obtain ⟨N1, n1⟩ := near_all h hs p _ (near_start h hp b1 b2 b3 b4 b5 b6)
  obtain ⟨N2, n2⟩ := near_up h hs _ (p + 1) N1 rfl n1
  exact ⟨N2, near_end n2, by rw [n2.at_]; exact b7, by rw [n2.at1]; exact b8⟩
theorem at_std {L : Lin} {r N : List Int} (h : CutOk L r.length N) {p q : Nat} {t : Int} (hp : p < L.length) (h1 : cu N p ≤ (q : Nat)) (h2 : (q : Int) + 1 ≤ cu N (p + 1)) (ht : r[q]? = some t) : t ∈ (stdC L r N).getD p [] := by
  rw [stdC_at hp]
  refine (atC_perm p).mem_iff.mpr ?_
  have n0 := h.nn (i := p) (by omega)
  exact mem_slN (j := q) (by omega) (by omega) ht
/-- the standings that a row reaches -/
def Rchd (L : Lin) (S S' : Std) : Prop := Scn L S' ∧ S'.flatten.Perm S.flatten ∧ grpsT L S'.flatten = grpsT L S.flatten
section
variable {L : Lin} {S : Std} {t a b : Int}
theorem low_highY (hK : kindsOk L) {m : Nat} (hc : (m : Int) ≤ caps L) {q : Nat} (hq : q < L.length) : lowT L m q < highT L q := by
  have c1 := caps_mono hK (Nat.zero_le q)
  rw [caps_zero] at c1
  have c3 := caps_take hq
  have c4 := (hK q hq).2
  unfold lowT highT
  split <;> omega
theorem scn_caps (hS : Scn L S) : (S.flatten.length : Int) ≤ caps L := by
  have h := cuts_ok hS
  have c0 := cap_cut h (Nat.zero_le L.length) (Nat.le_refl _)
  rw [h.zero, h.top, caps_all, caps_zero] at c0
  omega
theorem rchd_cut {r' N : List Int} (hS : Scn L S) (hp : r'.Perm S.flatten) (hg : grpsT L r' = grpsT L S.flatten) (hN : CutOk L r'.length N) : Rchd L S (stdC L r' N) := by
  have hn : r'.Nodup := hp.nodup_iff.mpr hS.nodup
  have h0 : ∀ x ∈ r', 0 ≤ x ∧ x < 2 ^ 40 := fun x hx => hS.nonneg x (hp.mem_iff.mp hx)
  exact ⟨scn_C hN hn h0, (perm_C hN).trans hp, by rw [stdC_grps hN hn h0]; exact hg⟩
theorem win_pos {S' : Std} (hS : Scn L S') {q j : Nat} (hq : q < S'.length) (hj : j < (S'.getD q []).length) : lowT L S'.flatten.length q ≤ (((S'.take q).flatten.length + j : Nat) : Int) ∧ (((S'.take q).flatten.length + j : Nat) : Int) < highT L q := by
  have h := cuts_ok hS
  have hL := hS.len
  have c1 := cap_cut h (Nat.zero_le q) (show q ≤ L.length by omega)
  have c2 := cap_cut h (show 0 ≤ q + 1 by omega) (show q + 1 ≤ L.length by omega)
  have c3 := cap_cut h (show q ≤ L.length by omega) (Nat.le_refl _)
  rw [h.zero, caps_zero, cuts_at (by omega)] at c1
  rw [h.zero, caps_zero, cuts_at (by omega), cuts_step hq] at c2
  rw [h.top, caps_all, cuts_at (by omega)] at c3
  unfold lowT highT
  split <;> omega
theorem reach_place (hK : kindsOk L) (hS : Scn L S) (ht : t ∈ S.flatten) {q : Nat} : q ∈ placesT L S.flatten.length (gIx (grpsT L S.flatten) t) ↔ ∃ S', Rchd L S S' ∧ q < S'.length ∧ t ∈ S'.getD q [] := by
  have hg := ix_inGrp (L := L) hS.nodup ht
  have hb : gIx (grpsT L S.flatten) t < (blksT L S.flatten.length).length := by rw [← grps_length]; exact hg.1
  constructor
  · intro h
    obtain ⟨h1, h2⟩ := List.mem_filter.mp h
    have hq := List.mem_range.mp h1
    obtain ⟨_, h3⟩ := List.mem_filter.mp (of_decide_eq_true h2)
    obtain ⟨h4, h5⟩ := Bool.and_eq_true_iff.mp h3
    have h4 := of_decide_eq_true h4
    have h5 := of_decide_eq_true h5
    have h6 := low_highY hK (scn_caps hS) hq
    have hm := blks_mem (blk_mem hb)
    obtain ⟨p, hp⟩ : ∃ p : Nat, (p : Int) = max ((((blksT L S.flatten.length).getD (gIx (grpsT L S.flatten) t) (0, 0)).1 : Nat) : Int) (lowT L S.flatten.length q) := ⟨(max ((((blksT L S.flatten.length).getD (gIx (grpsT L S.flatten) t) (0, 0)).1 : Nat) : Int) (lowT L S.flatten.length q)).toNat, by omega⟩
    obtain ⟨i0, hi0⟩ := List.getElem?_of_mem ht
    have hpb := pos_block hS.nodup hg hi0
    have hts : t ∈ slN S.flatten ((blksT L S.flatten.length).getD (gIx (grpsT L S.flatten) t) (0, 0)).1 (((blksT L S.flatten.length).getD (gIx (grpsT L S.flatten) t) (0, 0)).2 + 1) := mem_slN hpb.1 (by omega) hi0
    have ls : (slN S.flatten ((blksT L S.flatten.length).getD (gIx (grpsT L S.flatten) t) (0, 0)).1 (((blksT L S.flatten.length).getD (gIx (grpsT L S.flatten) t) (0, 0)).2 + 1)).length = ((blksT L S.flatten.length).getD (gIx (grpsT L S.flatten) t) (0, 0)).2 + 1 - ((blksT L S.flatten.length).getD (gIx (grpsT L S.flatten) t) (0, 0)).1 := by
      unfold slN; rw [List.length_take, List.length_drop]; omega
    obtain ⟨ys, y1, y2⟩ := put_one (i := p - ((blksT L S.flatten.length).getD (gIx (grpsT L S.flatten) t) (0, 0)).1) hts (by omega)
    obtain ⟨r', r1, r2, r3⟩ := arr_block hb y1
    have r4 := r3 (p - ((blksT L S.flatten.length).getD (gIx (grpsT L S.flatten) t) (0, 0)).1) (by rw [y1.length_eq]; omega)
    rw [y2, show ((blksT L S.flatten.length).getD (gIx (grpsT L S.flatten) t) (0, 0)).1 + (p - ((blksT L S.flatten.length).getD (gIx (grpsT L S.flatten) t) (0, 0)).1) = p by omega] at r4
    obtain ⟨N, n1, n2, n3⟩ := pos_cut (cuts_ok hS) hK (q := p) hq (by omega) (by omega) (by omega)
    have n1 : CutOk L r'.length N := by rw [r1.length_eq]; exact n1
    exact ⟨_, rchd_cut hS r1 r2 n1, by rw [stdC_len]; exact hq, at_std n1 hq n2 n3 r4⟩
  · rintro ⟨S', ⟨s1, s2, s3⟩, hq, hm⟩
    obtain ⟨j, hj, e⟩ := List.getElem_of_mem hm
    have hpj := std_pos hq hj
    have e2 : (S'.getD q []).getD j 0 = t := by rw [List.getD_eq_getElem?_getD, List.getElem?_eq_getElem hj, e]; rfl
    rw [e2] at hpj
    have hg2 : InGrp L S'.flatten t (gIx (grpsT L S.flatten) t) := by
      have := ix_inGrp (L := L) s1.nodup (s2.mem_iff.mpr ht)
      rw [s3] at this
      exact this
    have hpb := pos_block s1.nodup hg2 hpj
    have hw := win_pos s1 hq hj
    rw [s2.length_eq] at hpb hw
    exact places_has (by rw [← s1.len]; exact hq) (allow_has hb hpb.1 hpb.2 hw.1 hw.2)
theorem reach_meet (hK : kindsOk L) (hS : Scn L S) (ha : a ∈ S.flatten) (hb : b ∈ S.flatten) (hne : a ≠ b) : gIx (grpsT L S.flatten) a = gIx (grpsT L S.flatten) b ↔ ∃ S', Rchd L S S' ∧ ∃ q, q < S'.length ∧ (L.getD q z0).1 = "yard" ∧ a ∈ S'.getD q [] ∧ b ∈ S'.getD q [] := by
  have hg := ix_inGrp (L := L) hS.nodup ha
  have hB : gIx (grpsT L S.flatten) a < (blksT L S.flatten.length).length := by rw [← grps_length]; exact hg.1
  constructor
  · intro h
    have hg2 := ix_inGrp (L := L) hS.nodup hb
    rw [← h] at hg2
    obtain ⟨i, hi⟩ := List.getElem?_of_mem ha
    obtain ⟨j, hj⟩ := List.getElem?_of_mem hb
    have hij : i ≠ j := fun z => hne (by subst z; rw [hi] at hj; exact Option.some.inj hj)
    have pi := pos_block hS.nodup hg hi
    have pj := pos_block hS.nodup hg2 hj
    have hm := blks_mem (blk_mem hB)
    have hJ := blk_join hB (j := ((blksT L S.flatten.length).getD (gIx (grpsT L S.flatten) a) (0, 0)).1) (Nat.le_refl _) (by omega)
    have sa := mem_slN pi.1 (show i < ((blksT L S.flatten.length).getD (gIx (grpsT L S.flatten) a) (0, 0)).2 + 1 by omega) hi
    have sb := mem_slN pj.1 (show j < ((blksT L S.flatten.length).getD (gIx (grpsT L S.flatten) a) (0, 0)).2 + 1 by omega) hj
    have ls : (slN S.flatten ((blksT L S.flatten.length).getD (gIx (grpsT L S.flatten) a) (0, 0)).1 (((blksT L S.flatten.length).getD (gIx (grpsT L S.flatten) a) (0, 0)).2 + 1)).length = ((blksT L S.flatten.length).getD (gIx (grpsT L S.flatten) a) (0, 0)).2 + 1 - ((blksT L S.flatten.length).getD (gIx (grpsT L S.flatten) a) (0, 0)).1 := by
      unfold slN; rw [List.length_take, List.length_drop]; omega
    obtain ⟨ys, y1, y2, y3⟩ := put_two (i := 0) sa sb hne (by omega)
    obtain ⟨r', r1, r2, r3⟩ := arr_block hB y1
    have q1 := r3 0 (by rw [y1.length_eq]; omega)
    have q2 := r3 1 (by rw [y1.length_eq]; omega)
    rw [y2] at q1
    rw [y3] at q2
    obtain ⟨N, n1, p, hp, hy, n2, n3⟩ := meets_ex (cuts_ok hS) hK (by omega) hJ
    have n1 : CutOk L r'.length N := by rw [r1.length_eq]; exact n1
    exact ⟨_, rchd_cut hS r1 r2 n1, p, by rw [stdC_len]; exact hp, hy, at_std n1 hp n2 (by omega) q1, at_std n1 hp (Int.le_trans n2 (by omega)) (by omega) q2⟩
  · rintro ⟨S', ⟨s1, s2, s3⟩, q, hq, hy, h1, h2⟩
    obtain ⟨x, hx⟩ := yard_same s1 hq hy
    rw [s3] at hx
    rw [hx a h1, hx b h2]
end
end Kx
end
section
set_option maxHeartbeats 4000000
namespace Kx
open PySem PySem.Spec PyProof.Rows L2 Dl
def togT (L : Lin) (S : Std) (a b : Int) : Bool := decide ((L.getD (plT S a) z0).1 = "yard") && decide (plT S a = plT S b)
def aheadT (L : Lin) (S : Std) (a b : Int) : Bool := if plT S a ≠ plT S b ∨ (L.getD (plT S a) z0).1 = "yard" then decide (plT S a < plT S b) else decide (rkN (S.getD (plT S a) []) a < rkN (S.getD (plT S a) []) b)
section
variable {L : Lin} {S : Std} {a b : Int}
theorem noGrp_of {r : List Int} {t : Int} (h : t ∉ r) : NoGrp L r t := fun b hb k => by
  obtain ⟨q, _, e2⟩ := grps_at hb
  rw [e2] at k
  have k2 := (sortI_perm _).mem_iff.mp k
  obtain ⟨j, _, _, e⟩ := slN_mem k2
  exact h (List.mem_of_getElem? e)
theorem pl_at (hS : Scn L S) (ha : a ∈ S.flatten) : AtPl S a (plT S a) := by
  obtain ⟨i, hi⟩ := atPl_of ha
  rw [pl_of hi]
  exact hi
theorem ps_pl (hS : Scn L S) (ha : a ∈ S.flatten) : rkN S.flatten a = (S.take (plT S a)).flatten.length + rkN (S.getD (plT S a) []) a ∧ rkN (S.getD (plT S a) []) a < (S.getD (plT S a) []).length := by
  obtain ⟨h1, h2, _⟩ := pl_at hS ha
  obtain ⟨k1, k2⟩ := rk_get h2
  refine ⟨rk_at hS.nodup ?_, k1⟩
  have := std_pos h1 k1
  rw [this, List.getD_eq_getElem?_getD, k2]
  rfl
theorem take_mono (hS : Scn L S) {p q : Nat} (h : p < q) (hq : q ≤ S.length) : (S.take p).flatten.length + (S.getD p []).length ≤ (S.take q).flatten.length := by
  rw [← cuts_step (show p < S.length by omega)]
  have := (cuts_ok hS).le (i := p + 1) (j := q) h (by rw [← hS.len]; exact hq)
  rw [cuts_at (by omega), cuts_at hq] at this
  omega
theorem ahead_pos (hS : Scn L S) (ha : a ∈ S.flatten) (hb : b ∈ S.flatten) (h : aheadT L S a b = true) : rkN S.flatten a < rkN S.flatten b := by
  obtain ⟨a1, a2⟩ := ps_pl hS ha
  obtain ⟨b1, b2⟩ := ps_pl hS hb
  obtain ⟨c1, _, _⟩ := pl_at hS ha
  obtain ⟨d1, _, _⟩ := pl_at hS hb
  unfold aheadT at h
  split at h
  · have h := of_decide_eq_true h
    have := take_mono hS h (by omega)
    omega
  · rename_i q
    have h := of_decide_eq_true h
    have e : plT S a = plT S b := Classical.byContradiction fun z => q (.inl z)
    rw [← e] at b1
    omega
theorem pos_ahead (hS : Scn L S) (ha : a ∈ S.flatten) (hb : b ∈ S.flatten) (h : rkN S.flatten a < rkN S.flatten b) : aheadT L S a b = true ∨ togT L S a b = true := by
  obtain ⟨a1, a2⟩ := ps_pl hS ha
  obtain ⟨b1, b2⟩ := ps_pl hS hb
  obtain ⟨c1, _, _⟩ := pl_at hS ha
  obtain ⟨d1, _, _⟩ := pl_at hS hb
  have hle : plT S a ≤ plT S b := Nat.not_lt.mp fun z => by
    have := take_mono hS z (by omega)
    omega
  by_cases e : plT S a = plT S b
  · by_cases y : (L.getD (plT S a) z0).1 = "yard"
    · exact .inr (Bool.and_eq_true_iff.mpr ⟨decide_eq_true y, decide_eq_true e⟩)
    · refine .inl ?_
      unfold aheadT
      rw [if_neg (fun z => z.elim (fun x => x e) y)]
      rw [← e] at b1
      exact decide_eq_true (by omega)
  · refine .inl ?_
    unfold aheadT
    rw [if_pos (.inl e)]
    exact decide_eq_true (by omega)
theorem pl_same (hS : Scn L S) {q : Nat} (hq : q < S.length) (h : a ∈ S.getD q []) : plT S a = q := pl_of (atPl_at hS.nodup hq h)
theorem reach_tog (hK : kindsOk L) (hS : Scn L S) (ha : a ∈ S.flatten) (hb : b ∈ S.flatten) (hne : a ≠ b) : gIx (grpsT L S.flatten) a = gIx (grpsT L S.flatten) b ↔ ∃ S', Rchd L S S' ∧ togT L S' a b = true := by
  rw [reach_meet hK hS ha hb hne]
  constructor
  · rintro ⟨S', h, q, hq, hy, h1, h2⟩
    refine ⟨S', h, ?_⟩
    unfold togT
    rw [pl_same h.1 hq h1, pl_same h.1 hq h2, decide_eq_true hy, decide_eq_true rfl]
    rfl
  · rintro ⟨S', h, ht⟩
    obtain ⟨t1, t2⟩ := Bool.and_eq_true_iff.mp ht
    have t2 := of_decide_eq_true t2
    obtain ⟨a1, a2, _⟩ := pl_at h.1 (h.2.1.mem_iff.mpr ha)
    obtain ⟨b1, b2, _⟩ := pl_at h.1 (h.2.1.mem_iff.mpr hb)
    exact ⟨S', h, plT S' a, a1, of_decide_eq_true t1, a2, by rw [t2]; exact b2⟩
theorem gix_pos {r : List Int} (hn : r.Nodup) (ha : a ∈ r) (hb : b ∈ r) (h : gIx (grpsT L r) a < gIx (grpsT L r) b) : rkN r a < rkN r b := by
  have ga := ix_inGrp (L := L) hn ha
  have gb := ix_inGrp (L := L) hn hb
  have p1 := pos_block hn ga (rk_get ha).2
  have p2 := pos_block hn gb (rk_get hb).2
  have := blk_lt (L := L) (m := r.length) h (by rw [← grps_length]; exact gb.1)
  omega
theorem reach_ahead (hK : kindsOk L) (hS : Scn L S) (ha : a ∈ S.flatten) (hb : b ∈ S.flatten) (hne : a ≠ b) : gIx (grpsT L S.flatten) a < gIx (grpsT L S.flatten) b ↔ ∀ S', Rchd L S S' → aheadT L S' a b = true := by
  constructor
  · intro h S' hR
    have ha2 := hR.2.1.mem_iff.mpr ha
    have hb2 := hR.2.1.mem_iff.mpr hb
    rw [← hR.2.2] at h
    rcases pos_ahead hR.1 ha2 hb2 (gix_pos hR.1.nodup ha2 hb2 h) with q | q
    · exact q
    · have := (reach_tog hK hR.1 ha2 hb2 hne).mpr ⟨S', ⟨hR.1, .refl _, rfl⟩, q⟩
      omega
  · intro h
    rcases Nat.lt_trichotomy (gIx (grpsT L S.flatten) a) (gIx (grpsT L S.flatten) b) with q | q | q
    · exact q
    · obtain ⟨S', hR, ht⟩ := (reach_tog hK hS ha hb hne).mp q
      have h1 := h S' hR
      obtain ⟨t1, t2⟩ := Bool.and_eq_true_iff.mp ht
      unfold aheadT at h1
      rw [if_pos (.inr (of_decide_eq_true t1))] at h1
      have h1 := of_decide_eq_true h1
      have t2 := of_decide_eq_true t2
      omega
    · have h1 := ahead_pos hS ha hb (h S ⟨hS, .refl _, rfl⟩)
      have h2 := gix_pos hS.nodup hb ha q
      omega
theorem reach_pl (hK : kindsOk L) (hS : Scn L S) (ha : a ∈ S.flatten) {q : Nat} : q ∈ placesT L S.flatten.length (gIx (grpsT L S.flatten) a) ↔ ∃ S', Rchd L S S' ∧ plT S' a = q := by
  rw [reach_place hK hS ha]
  constructor
  · rintro ⟨S', h, hq, hm⟩
    exact ⟨S', h, pl_same h.1 hq hm⟩
  · rintro ⟨S', h, rfl⟩
    obtain ⟨a1, a2, _⟩ := pl_at h.1 (h.2.1.mem_iff.mpr ha)
    exact ⟨S', h, a1, a2⟩
end
theorem places_sorted (L : Lin) (m b : Nat) : (placesT L m b).Pairwise (· < ·) := by
  unfold placesT placesN
  exact List.Pairwise.filter _ List.pairwise_lt_range
theorem nats_sorted {js : List Int} {ps : List Nat} (hj : js.Pairwise (· < ·)) (hp : ps.Pairwise (· < ·)) (h : ∀ k : Int, k ∈ js ↔ ∃ q ∈ ps, k = ((q : Nat) : Int)) : js.map PyData.int = natsD ps := by
  have e : js = ps.map fun q : Nat => (q : Int) := by
    have hp2 : (ps.map fun q : Nat => (q : Int)).Pairwise (· < ·) := List.Pairwise.map _ (fun a b h => by omega) hp
    refine srt_uniq (R := (· < ·)) ?_ hj hp2 (fun x _ y _ h1 h2 => by omega)
    refine (List.perm_ext_iff_of_nodup (hj.imp fun h => by omega) (hp2.imp fun h => by omega)).mpr fun k => ?_
    rw [h k, List.mem_map]
    constructor
    · rintro ⟨q, h1, h2⟩
      exact ⟨q, h1, h2.symm⟩
    · rintro ⟨q, h1, h2⟩
      exact ⟨q, h1, h2.symm⟩
  rw [e]
  unfold natsD
  rw [List.map_map]
  rfl
theorem rk_first {o : List Int} {t : Int} {m : Nat} (h : m < rkN o t) : o[m]? ≠ some t := fun e => by
  obtain ⟨hm, e⟩ := List.getElem?_eq_some_iff.mp e
  have := List.not_of_lt_findIdx (p := fun x => decide (x = t)) (xs := o) (i := m) h
  rw [e] at this
  simp at this
def keysF (Fs : Fnd) : List Std := Fs.map (·.1)
theorem keysF_len (Fs : Fnd) : (keysF Fs).length = Fs.length := List.length_map _
theorem fnd_key {Fs : Fnd} {i : Nat} (h : i < Fs.length) : ((fndT Fs).getD i (.none, .none)).1.data = stdD ((keysF Fs).getD i []) := by
  unfold fndT keysF
  rw [List.getD_eq_getElem?_getD, List.getD_eq_getElem?_getD, List.getElem?_map, List.getElem?_map, List.getElem?_eq_getElem h]
  show (stK _).data = _
  unfold stK
  rw [NestedKey.data]
  exact (stK_data _).symm
theorem keysF_iff {L : Lin} {S S' : Std} {Fs : Fnd} (hK : kindsOk L) (h5 : L.length ≤ 40) (hS : Scn L S) (l1 : S.flatten.length ≤ 40) (R : Rch L S Fs) : S' ∈ keysF Fs ↔ Rchd L S S' := rch_iff hK h5 hS l1 R
theorem keysF_at {α : Type} (f : Std → α) {Fs : Fnd} {i : Nat} (h : i < Fs.length) : ((keysF Fs).take i).map f ++ [f ((keysF Fs).getD i [])] = ((keysF Fs).take (i + 1)).map f := by
  have h2 : i < (keysF Fs).length := by rw [keysF_len]; exact h
  rw [List.take_succ, List.getD_eq_getElem?_getD, List.getElem?_eq_getElem h2, List.map_append]
  rfl
theorem keysF_mem {Fs : Fnd} {i : Nat} (h : i < Fs.length) : (keysF Fs).getD i [] ∈ keysF Fs := getD_mem2 [] (by rw [keysF_len]; exact h)
theorem keysF_all (Fs : Fnd) : (keysF Fs).take Fs.length = keysF Fs := by rw [← keysF_len, List.take_length]
theorem places_js {L : Lin} {S : Std} {Fs : Fnd} {t : Int} {js : List Int} (hK : kindsOk L) (h5 : L.length ≤ 40) (hS : Scn L S) (l1 : S.flatten.length ≤ 40) (R : Rch L S Fs) (ht : t ∈ S.flatten) (hj : js.Pairwise (· < ·))
    (hm : ∀ k : Int, k ∈ js ↔ k ∈ (keysF Fs).map fun S' => ((plT S' t : Nat) : Int)) : js.map PyData.int = natsD (placesT L S.flatten.length (gIx (grpsT L S.flatten) t)) := by
  refine nats_sorted hj (places_sorted _ _ _) fun k => ?_
  rw [hm k, List.mem_map]
  constructor
  · rintro ⟨S', h1, rfl⟩
    exact ⟨_, (reach_pl hK hS ht).mpr ⟨S', (keysF_iff hK h5 hS l1 R).mp h1, rfl⟩, rfl⟩
  · rintro ⟨q, h1, rfl⟩
    obtain ⟨S', h2, h3⟩ := (reach_pl hK hS ht).mp h1
    exact ⟨S', (keysF_iff hK h5 hS l1 R).mpr h2, by rw [h3]⟩
theorem any_tog {L : Lin} {S : Std} {Fs : Fnd} {a b : Int} (hK : kindsOk L) (h5 : L.length ≤ 40) (hS : Scn L S) (l1 : S.flatten.length ≤ 40) (R : Rch L S Fs) (ha : a ∈ S.flatten) (hb : b ∈ S.flatten) (hne : a ≠ b) :
    ((keysF Fs).map fun S' => togT L S' a b).any id = decide (gIx (grpsT L S.flatten) a = gIx (grpsT L S.flatten) b) := by
  rw [Bool.eq_iff_iff, decide_eq_true_iff, List.any_eq_true, reach_tog hK hS ha hb hne]
  constructor
  · rintro ⟨x, h1, h2⟩
    obtain ⟨S', h3, rfl⟩ := List.mem_map.mp h1
    exact ⟨S', (keysF_iff hK h5 hS l1 R).mp h3, h2⟩
  · rintro ⟨S', h1, h2⟩
    exact ⟨_, List.mem_map.mpr ⟨S', (keysF_iff hK h5 hS l1 R).mpr h1, rfl⟩, h2⟩
theorem all_ahead {L : Lin} {S : Std} {Fs : Fnd} {a b : Int} (hK : kindsOk L) (h5 : L.length ≤ 40) (hS : Scn L S) (l1 : S.flatten.length ≤ 40) (R : Rch L S Fs) (ha : a ∈ S.flatten) (hb : b ∈ S.flatten) (hne : a ≠ b) :
    ((keysF Fs).map fun S' => aheadT L S' a b).all id = decide (gIx (grpsT L S.flatten) a < gIx (grpsT L S.flatten) b) := by
  rw [Bool.eq_iff_iff, decide_eq_true_iff, List.all_eq_true, reach_ahead hK hS ha hb hne]
  constructor
  · intro h S' h1
    exact h _ (List.mem_map.mpr ⟨S', (keysF_iff hK h5 hS l1 R).mpr h1, rfl⟩)
  · intro h x h1
    obtain ⟨S', h3, rfl⟩ := List.mem_map.mp h1
    exact h S' ((keysF_iff hK h5 hS l1 R).mp h3)
def phMeetX (cN : Addr) : List PyData → (O → Prop) → (XS → Prop) → Prop := fun ds Kt Ke => ∃ (d e : PyData) (L : Lin) (S : Std) (a b : Int), ds = [d, e, .int a, .int b] ∧ Ln d L ∧ St e S ∧ L.length ≤ 40 ∧ kindsOk L ∧ S.flatten.length ≤ 40 ∧ S.flatten.Nodup ∧
  (a ∈ S.flatten → b ∈ S.flatten → Kt (.fz (.bool (decide (gIx (grpsT L S.flatten) a = gIx (grpsT L S.flatten) b))))) ∧ (a ∉ S.flatten → Ke (cN, some (("train" : Str), PyData.int a))) ∧ (a ∈ S.flatten → b ∉ S.flatten → Ke (cN, some (("train" : Str), PyData.int b)))
def phEverX (cN : Addr) : List PyData → (O → Prop) → (XS → Prop) → Prop := fun ds Kt Ke => ∃ (d e : PyData) (L : Lin) (S : Std) (a b : Int), ds = [d, e, .int a, .int b] ∧ Ln d L ∧ St e S ∧ L.length ≤ 40 ∧ kindsOk L ∧ S.flatten.length ≤ 40 ∧ S.flatten.Nodup ∧
  (a ∈ S.flatten → b ∈ S.flatten → Kt (.fz (.bool (decide (gIx (grpsT L S.flatten) a < gIx (grpsT L S.flatten) b))))) ∧ (a ∉ S.flatten → Ke (cN, some (("train" : Str), PyData.int a))) ∧ (a ∈ S.flatten → b ∉ S.flatten → Ke (cN, some (("train" : Str), PyData.int b)))
def phAhead : List PyData → (O → Prop) → Prop := fun ds Kt => ∃ (L : Lin) (S : Std) (a b : Int), ds = [lineD L, stdD S, .int a, .int b] ∧ Scn L S ∧ L.length ≤ 40 ∧ kindsOk L ∧ S.flatten.length ≤ 40 ∧ a ∈ S.flatten ∧ b ∈ S.flatten ∧ Kt (.fz (.bool (aheadT L S a b)))
def phTog : List PyData → (O → Prop) → Prop := fun ds Kt => ∃ (L : Lin) (S : Std) (a b : Int), ds = [lineD L, stdD S, .int a, .int b] ∧ Scn L S ∧ L.length ≤ 40 ∧ kindsOk L ∧ S.flatten.length ≤ 40 ∧ a ∈ S.flatten ∧ b ∈ S.flatten ∧ Kt (.fz (.bool (togT L S a b)))
def phMissing : List PyData → (O → Prop) → Prop := fun ds Kt => ∃ (k : Nat) (L : Lin) (S : Std) (a b : Int), ds = [.int (k : Nat), lineD L, stdD S, .int a, .int b] ∧ k < 3 ∧ L.length ≤ 40 ∧ kindsOk L ∧ S.flatten.length ≤ 40 ∧ S.flatten.Nodup ∧
  ((a ∉ S.flatten ∧ Kt (.fz (.int a))) ∨ (k ≠ 0 ∧ a ∈ S.flatten ∧ b ∉ S.flatten ∧ Kt (.fz (.int b))))
end Kx
end
section
set_option maxHeartbeats 4000000
namespace Kx
open PySem PySem.Spec PyProof.Rows L2 Dl
local macro_rules | `(tactic| walk_at "dd") => `(tactic| simp only [dC, dVar, dBin, dTest, onB, dNotT, dAndT, dOrT, dAndV, dOrV, dNotV, dIf, dNil, dCons, dCB, dSeqI, dRng1, dRng2, dEnI, dZpI, escs, esc, fix1, fixN, mov, vw, vk, see, seeAll, dNext, dSeq, dBreak, dCont, dExpr, dRet, dRetN, dIfS, dSet, dMulti, putN, gdName, gdNil, gdCons, gdTup, dFor, dWhile, dCallP, dCallV, vws, isScal, onBox, dCallB, dTup, dLst, dLstO, dIx, onI2, dNegI, dAdd2, addD, dEq2, eqK, dIn2, dLen, onI1, onI12, dInt1, onInts, dToL, dToT, onBs, dMeth, isOwn, rhoApp, rhoPopAt, dStore, dRep2, dNoP, dPart, dSlice, wipeG, dYes, dLc, dIsi, dIsNT, dIsN, nonOf, dAug, dUnp, dKwP, pick, dNewD, dUpd, onPairs, dSortD, onIntsA, onOlAt, dAppT, dCallS, dLenS, dIxS, dLc2, lcTurn, List.getD_cons_zero, List.getD_cons_succ, Nat.zero_le, zl1, zl2, zl3, zl4, zl5, zl6, zl7, zl8, zl9, zl10, zl11, ls1, ls2, ls3, ls4, eq_self, Nat.reduceAdd, Nat.reduceEqDiff, itemsOf_list, itemsOf_tuple, Dl.get, Dl.put, List.length_cons, List.length_nil, List.map_cons, List.map_nil, id, true_and, and_true, true_implies, forall_const, Bool.not_true, Bool.not_false, reduceCtorEq, false_implies, Nat.zero_add, ite_true, ite_false, Bool.true_eq_false, Bool.false_eq_true])
local macro_rules | `(tactic| walk_at "w") => `(tactic| conv => whnf)
local macro_rules | `(tactic| walk_at "cb") => `(tactic| ((conv => whnf); refine ⟨rfl, rfl, Nat.zero_lt_succ _, ?_⟩; (conv => whnf)))
local macro_rules | `(tactic| walk_at "cp") => `(tactic| ((conv => whnf); refine ⟨rfl, ?_⟩; (conv => whnf)))
local macro_rules | `(tactic| walk_at "a") => `(tactic| ((conv => whnf); repeat (first | (refine ⟨leS rfl, ?_⟩; (conv => whnf)) | (refine ⟨trivial, ?_⟩; (conv => whnf)) | (refine ⟨rfl, ?_⟩; (conv => whnf)) | (refine ⟨Nat.zero_lt_succ _, ?_⟩; (conv => whnf)) | (refine ⟨(show (2 : Nat) < _ from ltN rfl), ?_⟩; (conv => whnf)) | (refine ⟨(show Dl.inR _ from (by unfold Dl.inR; omega)), ?_⟩; (conv => whnf)) | (refine ⟨fun _ => ?_, fun z => Bool.noConfusion (show true = false from z)⟩; (conv => whnf)) | (refine ⟨fun z => Bool.noConfusion (show false = true from z), fun _ => ?_⟩; (conv => whnf))); try (first | refine norm_ex (by dsimp only [Dl.put, Dl.wipeG, Dl.putN, puts]) ?_ | refine norm_lc (by dsimp only [Dl.put, Dl.wipeG, Dl.putN, puts]) ?_)))
local macro_rules | `(tactic| walk_at "b") => `(tactic| ((try dsimp only [puts, Dl.put, Dl.putN, Dl.wipeG]); walk_at "a"))
local macro_rules | `(tactic| walk_at "d") => `(tactic| ((walk_at "b"); dsimp only))
section
variable {P : Program} {w : World} {K : PySem.W.Frag} {mg : Str → Option Value} {base : Heap}
theorem st_may_meet (a0 a1 a2 a3 : O) : startG ["line", "standing", "one", "other"] [a0, a1, a2, a3] = [some a0, some a1, some a2, some a3] := rfl
theorem can_may_meet (D : At K mg "may_meet" s_may_meet ["line", "standing", "one", "other"]) (B : Blt mg) {cNoTrain : Addr} (c_block_of : CanX P w K mg base 7 "block_of" ["line", "standing", "train"] (spX K 3 (phBlockOf cNoTrain))) : CanXW P w K mg base (8) "may_meet" ["line", "standing", "one", "other"] ["other", "one", "standing", "line"] [3, 2, 1, 0] (spX K 4 (phMeetX cNoTrain)) := by
  refine D.canXW ["other", "one", "standing", "line"] [3, 2, 1, 0] (fun _ _ _ _ _ _ us hl => match us, hl with | [_, _, _, _], _ => rfl) sc_may_meet rfl fun f cdv A outer s H E hr => ?_
  have tk := takes_of (X := cxOf (L2.CX P w) P w K mg base ["line", "standing", "one", "other"] "may_meet" (defScope s_may_meet) f cdv A outer s H E) (E := E) rfl rfl rfl rfl
  exact ⟨_, (dx_single (dx_ret (dxe_eq2 hr (dxe_call c_block_of tk hr (da_cons (dv 0) (da_cons (dv 1) (da_cons (dv 2) da_nil)))) (dxe_call c_block_of tk hr (da_cons (dv 0) (da_cons (dv 1) (da_cons (dv 3) da_nil))))))), fun ds Kt Ke hl h => by
    obtain ⟨d, e, L, S, a, b, rfl, hL, h1, h5, hK, hl, hn, hk, hka, hkb⟩ := h
    simp only [List.map_cons, List.map_nil]
    rw [st_may_meet]
    walk_at "b"
    refine ⟨d, e, L, S, a, rfl, hL, h1, h5, hK, hl, fun i hi => ?_, fun z => hka fun ha => z _ (ix_inGrp hn ha).1 (ix_inGrp hn ha).2.1⟩
    have ha : a ∈ S.flatten := Classical.byContradiction fun z => noGrp_of z _ hi.1 hi.2.1
    have e1 := inGrp_ix hi
    walk_at "b"
    refine ⟨d, e, L, S, b, rfl, hL, h1, h5, hK, hl, fun j hj => ?_, fun z => hkb ha fun hb => z _ (ix_inGrp hn hb).1 (ix_inGrp hn hb).2.1⟩
    have hb : b ∈ S.flatten := Classical.byContradiction fun z => noGrp_of z _ hj.1 hj.2.1
    have e2 := inGrp_ix hj
    walk_at "b"
    have hk := hk ha hb
    rw [e1, e2] at hk
    rw [show decide (((i : Nat) : Int) = ((j : Nat) : Int)) = decide (i = j) from dec_cast i j]
    exact hk⟩
theorem st_ever_ahead (a0 a1 a2 a3 : O) : startG ["line", "standing", "one", "other"] [a0, a1, a2, a3] = [some a0, some a1, some a2, some a3] := rfl
theorem can_ever_ahead (D : At K mg "ever_ahead" s_ever_ahead ["line", "standing", "one", "other"]) (B : Blt mg) {cNoTrain : Addr} (c_block_of : CanX P w K mg base 7 "block_of" ["line", "standing", "train"] (spX K 3 (phBlockOf cNoTrain))) : CanXW P w K mg base (8) "ever_ahead" ["line", "standing", "one", "other"] ["other", "one", "standing", "line"] [3, 2, 1, 0] (spX K 4 (phEverX cNoTrain)) := by
  refine D.canXW ["other", "one", "standing", "line"] [3, 2, 1, 0] (fun _ _ _ _ _ _ us hl => match us, hl with | [_, _, _, _], _ => rfl) sc_ever_ahead rfl fun f cdv A outer s H E hr => ?_
  have tk := takes_of (X := cxOf (L2.CX P w) P w K mg base ["line", "standing", "one", "other"] "ever_ahead" (defScope s_ever_ahead) f cdv A outer s H E) (E := E) rfl rfl rfl rfl
  exact ⟨_, (dx_single (dx_ret (dxe_lt2 (dxe_call c_block_of tk hr (da_cons (dv 0) (da_cons (dv 1) (da_cons (dv 2) da_nil)))) (dxe_call c_block_of tk hr (da_cons (dv 0) (da_cons (dv 1) (da_cons (dv 3) da_nil))))))), fun ds Kt Ke hl h => by
    obtain ⟨d, e, L, S, a, b, rfl, hL, h1, h5, hK, hl, hn, hk, hka, hkb⟩ := h
    simp only [List.map_cons, List.map_nil]
    rw [st_ever_ahead]
    walk_at "b"
    refine ⟨d, e, L, S, a, rfl, hL, h1, h5, hK, hl, fun i hi => ?_, fun z => hka fun ha => z _ (ix_inGrp hn ha).1 (ix_inGrp hn ha).2.1⟩
    have ha : a ∈ S.flatten := Classical.byContradiction fun z => noGrp_of z _ hi.1 hi.2.1
    have e1 := inGrp_ix hi
    walk_at "b"
    refine ⟨d, e, L, S, b, rfl, hL, h1, h5, hK, hl, fun j hj => ?_, fun z => hkb ha fun hb => z _ (ix_inGrp hn hb).1 (ix_inGrp hn hb).2.1⟩
    have hb : b ∈ S.flatten := Classical.byContradiction fun z => noGrp_of z _ hj.1 hj.2.1
    have e2 := inGrp_ix hj
    walk_at "b"
    have hk := hk ha hb
    rw [e1, e2] at hk
    rw [show decide (((i : Nat) : Int) < ((j : Nat) : Int)) = decide (i < j) from dec_castL i j]
    exact hk⟩
theorem st_ahead (a0 a1 a2 a3 : O) : startG ["_law_rail_here", "_law_park", "_law_first", "_law_second", "_law_here", "_law_there"] [a0, a1, a2, a3] = [some a0, some a1, some a2, some a3, none, none] := rfl
theorem can_ahead (D : At K mg "_law_ahead" s_ahead ["_law_rail_here", "_law_park", "_law_first", "_law_second"]) (B : Blt mg) (c_spot : Can P w K mg base 1 "_law_spot" ["_law_park", "_law_cart"] (spP K 2 phSpot)) : Can P w K mg base (2) "_law_ahead" ["_law_rail_here", "_law_park", "_law_first", "_law_second"] (spP K 4 phAhead) := by
  refine D.canP sc_ahead rfl fun f cdv A outer s H E hr => ⟨_, (ds_cons (ds_par 4 5 sc_ahead.nd (da_cons (de_canP c_spot hr (da_cons (dv 1) (da_cons (dv 2) da_nil))) (da_cons (de_canP c_spot hr (da_cons (dv 1) (da_cons (dv 3) da_nil))) da_nil)))
    (ds_cons (ds_if (dt_w (dw_or (dt_ne hr (dv 4) (dv 5)) (dw_or1 (dt_eq hr (de_ix (de_ix (dv 0) (dv 4)) de_int) de_str)))) (ds_single (ds_ret (de_lt (dv 4) (dv 5)))) ds_nil)
    (ds_single (ds_ret (de_lt (de_idxI (de_ty fit_list call_list_of rfl B.list (by decide +kernel) (da_cons (de_ix (dv 1) (dv 4)) da_nil)) (da_cons (dv 2) da_nil)) (de_idxI (de_ty fit_list call_list_of rfl B.list (by decide +kernel) (da_cons (de_ix (dv 1) (dv 4)) da_nil)) (da_cons (dv 3) da_nil))))))), fun ds Kt hl h => ?_⟩
  obtain ⟨L, S, a, b, rfl, hS, h5, hK, l1, ha, hb, hk⟩ := h
  simp only [List.map_cons, List.map_nil]
  rw [st_ahead]
  have pa := pl_at hS ha
  have pb := pl_at hS hb
  have hl := hS.len
  walk_at "b"
  refine ⟨_, S, a, _, rfl, st_std S, by omega, pa, ?_⟩
  walk_at "b"
  refine ⟨_, S, b, _, rfl, st_std S, by omega, pb, ?_⟩
  have la : plT S a < (S.map fun l => PyData.tuple (l.map PyData.int)).length := by rw [List.length_map]; exact pa.1
  have lL : plT S a < (L.map placeD).length := by rw [List.length_map]; have := pa.1; omega
  walk_at "b"
  rw [dec_cast]
  unfold aheadT at hk
  refine ⟨fun q => ?_, fun q => ?_⟩
  · have q : plT S a ≠ plT S b := by simpa using q
    rw [if_pos (.inl q)] at hk
    walk_at "b"
    rw [dec_castL]
    exact hk
  · have q : plT S a = plT S b := by simpa using q
    walk_at "b"
    rw [atI_nat .none lL, line_get (by have := pa.1; omega)]
    walk_at "b"
    refine ⟨⟨shaped_kind (hK _ (by have := pa.1; omega)).1, shY⟩, ?_⟩
    walk_at "b"
    refine ⟨fun y => ?_, fun y => ?_⟩
    · rw [if_pos (.inr (of_decide_eq_true y))] at hk
      walk_at "b"
      rw [dec_castL]
      exact hk
    · rw [if_neg (fun z => z.elim (fun x => x q) (of_decide_eq_false y))] at hk
      walk_at "b"
      rw [atI_nat .none la, std_get pa.1]
      walk_at "b"
      refine ⟨_, rfl, ?_⟩
      walk_at "b"
      refine ⟨a, rkN (S.getD (plT S a) []) a, rfl, (rk_get pa.2.1).2, fun m hm => rk_first hm, ?_⟩
      walk_at "b"
      rw [atI_nat .none la, std_get pa.1]
      walk_at "b"
      refine ⟨_, rfl, ?_⟩
      walk_at "b"
      refine ⟨b, rkN (S.getD (plT S a) []) b, rfl, (rk_get (by rw [q]; exact pb.2.1)).2, fun m hm => rk_first hm, ?_⟩
      walk_at "b"
      rw [dec_castL]
      exact hk
theorem st_together (a0 a1 a2 a3 : O) : startG ["_law_rail_here", "_law_park", "_law_first", "_law_second", "_law_here"] [a0, a1, a2, a3] = [some a0, some a1, some a2, some a3, none] := rfl
theorem can_together (D : At K mg "_law_together" s_together ["_law_rail_here", "_law_park", "_law_first", "_law_second"]) (B : Blt mg) (c_spot : Can P w K mg base 1 "_law_spot" ["_law_park", "_law_cart"] (spP K 2 phSpot)) : Can P w K mg base (2) "_law_together" ["_law_rail_here", "_law_park", "_law_first", "_law_second"] (spP K 4 phTog) := by
  refine D.canP sc_together rfl fun f cdv A outer s H E hr => ⟨_, (ds_cons (ds_set 4 sc_together.nd (de_canP c_spot hr (da_cons (dv 1) (da_cons (dv 2) da_nil))))
    (ds_single (ds_ret (de_and (de_eq hr (de_ix (de_ix (dv 0) (dv 4)) de_int) de_str) (de_one (de_eq hr (dv 4) (de_canP c_spot hr (da_cons (dv 1) (da_cons (dv 3) da_nil))))))))), fun ds Kt hl h => ?_⟩
  obtain ⟨L, S, a, b, rfl, hS, h5, hK, l1, ha, hb, hk⟩ := h
  simp only [List.map_cons, List.map_nil]
  rw [st_together]
  have pa := pl_at hS ha
  have pb := pl_at hS hb
  have hl := hS.len
  walk_at "b"
  refine ⟨_, S, a, _, rfl, st_std S, by omega, pa, ?_⟩
  have lL : plT S a < (L.map placeD).length := by rw [List.length_map]; have := pa.1; omega
  walk_at "b"
  rw [atI_nat .none lL, line_get (by have := pa.1; omega)]
  walk_at "b"
  refine ⟨⟨shaped_kind (hK _ (by have := pa.1; omega)).1, shY⟩, ?_⟩
  walk_at "b"
  unfold togT at hk
  refine ⟨fun y => ?_, fun y => ?_⟩
  · have y := of_decide_eq_true y
    rw [decide_eq_true y, Bool.true_and] at hk
    walk_at "b"
    refine ⟨_, S, b, _, rfl, st_std S, by omega, pb, ?_⟩
    walk_at "b"
    rw [dec_cast]
    exact hk
  · have y := of_decide_eq_false y
    rw [decide_eq_false y, Bool.false_and] at hk
    walk_at "b"
    exact hk
theorem st_missing (a0 a1 a2 a3 a4 : O) : startG ["_law_kind", "_law_rail_here", "_law_park", "_law_first", "_law_second", "_law_caught", "error"] [a0, a1, a2, a3, a4] = [some a0, some a1, some a2, some a3, some a4, none, none] := rfl
theorem can_missing (D : At K mg "_law_missing" s_missing ["_law_kind", "_law_rail_here", "_law_park", "_law_first", "_law_second"]) (B : Blt mg) {cNoTrain cInside cNoNumber cNoPlace : Addr} (m_NoTrain : mg "NoTrain" = some (.ref cNoTrain)) (m_Inside : mg "Inside" = some (.ref cInside)) (m_NoNumber : mg "NoNumber" = some (.ref cNoNumber)) (m_NoPlace : mg "NoPlace" = some (.ref cNoPlace)) (ec : ExcC K cNoTrain) (xf : XfC K cNoTrain) (hno : PySem.W.findIn K (.ref cNoTrain) "train" = some none) (k1 : PySem.W.kitOne K (.ref cNoTrain) (.ref cNoTrain) = some true) (k2 : PySem.W.kitAny K (.ref cNoTrain) [.ref cInside, .ref cNoNumber, .ref cNoPlace] = some false) (k4 : PySem.W.kitOne K (.ref cNoTrain) (.type "LookupError") = some true) (xm : PySem.W.exmAny K (.ref cNoTrain) [.ref cInside, .ref cNoNumber, .ref cNoPlace, .ref cNoTrain] = some true) (c_places_of : CanX P w K mg base 8 "places_of" ["line", "standing", "train"] (spX K 3 (phPlacesOf cNoTrain))) (c_may_meet : CanX P w K mg base 8 "may_meet" ["line", "standing", "one", "other"] (spX K 4 (phMeetX cNoTrain))) (c_ever_ahead : CanX P w K mg base 8 "ever_ahead" ["line", "standing", "one", "other"] (spX K 4 (phEverX cNoTrain))) : Can P w K mg base (9) "_law_missing" ["_law_kind", "_law_rail_here", "_law_park", "_law_first", "_law_second"] (spP K 5 phMissing) := by
  refine D.canP sc_missing rfl fun f cdv A outer s H E hr => ⟨_, (ds_cons (ds_set 5 sc_missing.nd de_non)
    (ds_cons (ds_try 6 sc_missing.nd (exTest_tup (.cons ⟨rfl, by decide, .inl m_Inside⟩ (by rfl) (.cons ⟨rfl, by decide, .inl m_NoNumber⟩ (by rfl) (.cons ⟨rfl, by decide, .inl m_NoPlace⟩ (by rfl) (.cons ⟨rfl, by decide, .inl m_NoTrain⟩ (by rfl) .nil)))) (show 4 ≤ sizeLine by decide)) (fun W pn xe tk _ => (dx_single (dx_if (dt_eq hr (dv 0) de_int) (dx_single (dx_expr (dxe_call c_places_of tk hr (da_cons (dv 1) (da_cons (dv 2) (da_cons (dv 3) da_nil)))))) (dx_single (dx_if (dt_eq hr (dv 0) de_int) (dx_single (dx_expr (dxe_call c_may_meet tk hr (da_cons (dv 1) (da_cons (dv 2) (da_cons (dv 3) (da_cons (dv 4) da_nil))))))) (dx_single (dx_expr (dxe_call c_ever_ahead tk hr (da_cons (dv 1) (da_cons (dv 2) (da_cons (dv 3) (da_cons (dv 4) da_nil)))))))))))) (ds_copyS 5 6 sc_missing.nd))
    (ds_cons (ds_if (dt_w (dw_or (dt_not (dt_val (de_isX (.own m_NoTrain rfl rfl) (dv 5) B.isinstance))) (dw_or1 (dt_not (dt_val (de_isX (.blt B.LookupError PyProof.Rows.Boot.«LookupError» (by decide) rfl rfl) (dv 5) B.isinstance)))))) (ds_single (ds_ret de_non)) ds_nil)
    (ds_single (ds_ret (de_if (dt_val (de_isX3 (.own m_Inside rfl rfl) (.own m_NoNumber rfl rfl) (.own m_NoPlace rfl rfl) (dv 5) B.isinstance)) de_non (de_fx (dv 5)))))))), fun ds Kt hl h => ?_⟩
  obtain ⟨k, L, S, a, b, rfl, hk3, h5, hK, l1, hn, hh⟩ := h
  simp only [List.map_cons, List.map_nil]
  rw [st_missing]
  have hno_ab : a ∈ S.flatten → b ∈ S.flatten → False := fun ha hb => hh.elim (fun z => z.1 ha) fun z => z.2.2.1 hb
  have ka : a ∉ S.flatten → Kt (.fz (.int a)) := fun ha => hh.elim (·.2) fun z => absurd z.2.1 ha
  have kb : a ∈ S.flatten → Kt (.fz (.int b)) := fun ha => hh.elim (fun z => absurd ha z.1) fun z => z.2.2.2
  walk_at "b"
  refine ⟨fun q => ?_, fun q => ?_⟩
  · have q : k = 0 := by
      have := of_decide_eq_true q
      omega
    have hna : a ∉ S.flatten := hh.elim (·.1) fun z => absurd q z.1
    walk_at "b"
    refine ⟨_, _, L, S, a, rfl, ln_line L, st_std S, h5, hK, l1, fun i hi => absurd hi.2.1 (noGrp_of hna i hi.1), fun _ => ⟨xm, ?_⟩⟩
    walk_at "b"
    refine ⟨_, rfl, ?_⟩
    walk_at "b"
    refine .inl ⟨5, _, rfl, rfl, ec, true, k1, ?_⟩
    walk_at "b"
    refine .inl ⟨5, _, rfl, rfl, ec, true, k4, ?_⟩
    walk_at "b"
    refine .inl ⟨5, _, rfl, rfl, ec, false, k2, ?_⟩
    walk_at "b"
    refine ⟨5, _, _, rfl, rfl, xf, hno, ?_⟩
    walk_at "b"
    exact ka hna
  · walk_at "b"
    refine ⟨fun q2 => ?_, fun q2 => ?_⟩
    · walk_at "b"
      refine ⟨_, _, L, S, a, b, rfl, ln_line L, st_std S, h5, hK, l1, hn, fun ha hb => (hno_ab ha hb).elim, fun ha => ⟨xm, ?_⟩, fun ha hb => ⟨xm, ?_⟩⟩
      · skip
        walk_at "b"
        refine ⟨_, rfl, ?_⟩
        walk_at "b"
        refine .inl ⟨5, _, rfl, rfl, ec, true, k1, ?_⟩
        walk_at "b"
        refine .inl ⟨5, _, rfl, rfl, ec, true, k4, ?_⟩
        walk_at "b"
        refine .inl ⟨5, _, rfl, rfl, ec, false, k2, ?_⟩
        walk_at "b"
        refine ⟨5, _, _, rfl, rfl, xf, hno, ?_⟩
        walk_at "b"
        exact ka ha
      · skip
        walk_at "b"
        refine ⟨_, rfl, ?_⟩
        walk_at "b"
        refine .inl ⟨5, _, rfl, rfl, ec, true, k1, ?_⟩
        walk_at "b"
        refine .inl ⟨5, _, rfl, rfl, ec, true, k4, ?_⟩
        walk_at "b"
        refine .inl ⟨5, _, rfl, rfl, ec, false, k2, ?_⟩
        walk_at "b"
        refine ⟨5, _, _, rfl, rfl, xf, hno, ?_⟩
        walk_at "b"
        exact kb ha
    · walk_at "b"
      refine ⟨_, _, L, S, a, b, rfl, ln_line L, st_std S, h5, hK, l1, hn, fun ha hb => (hno_ab ha hb).elim, fun ha => ⟨xm, ?_⟩, fun ha hb => ⟨xm, ?_⟩⟩
      · skip
        walk_at "b"
        refine ⟨_, rfl, ?_⟩
        walk_at "b"
        refine .inl ⟨5, _, rfl, rfl, ec, true, k1, ?_⟩
        walk_at "b"
        refine .inl ⟨5, _, rfl, rfl, ec, true, k4, ?_⟩
        walk_at "b"
        refine .inl ⟨5, _, rfl, rfl, ec, false, k2, ?_⟩
        walk_at "b"
        refine ⟨5, _, _, rfl, rfl, xf, hno, ?_⟩
        walk_at "b"
        exact ka ha
      · skip
        walk_at "b"
        refine ⟨_, rfl, ?_⟩
        walk_at "b"
        refine .inl ⟨5, _, rfl, rfl, ec, true, k1, ?_⟩
        walk_at "b"
        refine .inl ⟨5, _, rfl, rfl, ec, true, k4, ?_⟩
        walk_at "b"
        refine .inl ⟨5, _, rfl, rfl, ec, false, k2, ?_⟩
        walk_at "b"
        refine ⟨5, _, _, rfl, rfl, xf, hno, ?_⟩
        walk_at "b"
        exact kb ha
end
end Kx
end
section
set_option maxHeartbeats 4000000
namespace Dl
open PySem PySem.Spec PyProof.Rows L2
/-- an empty set, just made -/
abbrev freshS (w : World) : Obj := { cls := .type "set", dict := none, data := .set #[] 0 (.fresh 0 0 (!w.params.followText "set-order")) }
section
variable {P : Program} {w : World} {A : Around} {E : Value → Shared → Prop} {s : Shared}
/-- set(l), l a list of ints: a set in the order that the model knows -/
theorem set_of_listR {l : Addr} {xs : Array Value} (ns : List Int) {Q : Value → Shared → Prop} (hh : A.handled = none) (hl : s.heap.IsList l xs) (hit : IntsAre xs.toList ns) (hb : ns.length + 1 < scanBound)
    (h : ∀ (h' : Heap) (tk c : Nat), SetR w h' s.heap.objs.size (fun j => decide (j ∈ ns)) c → c ≤ ns.length → (∀ b o, s.heap.get? b = some o → h'.get? b = some o) → Q (.ref s.heap.objs.size) { s with heap := h', toks := tk }) :
    wpAny (model P w) A (call (.type "set") [.ref l]) Q E s := by
  have zn : xs.size = ns.length := by rw [← Array.length_toList]; exact IntsAre.length hit
  obtain ⟨cc, tl, mro⟩ := F.called_set.mro
  have made := F.called_set.made
  have subs := F.called_set.sub
  refine wpAny_call (codeAny_of_tree (show wpAny _ _ (callAny (.type "set") _) _ _ _ from ?_))
  refine wpAny_pure ⟨Code.quiet_builtin _ (by decide +kernel), codeAny_builtin F.entry_type_call (?_)⟩
  rw [Around.under_plain (weight_type_call_type "set" [.ref l] []) (by rfl)]
  have n1 := F.called_set.notType
  have n2 := F.called_set.canCreate
  have n3 := F.typeCall_set_1 (Value.ref l)
  repeat (any_goals (first | wp_step | assumption))
  refine codeAny_mono (code_set_led1 (.ref l) (E := E) (Q₁ := fun ob s₁ => ob = .ref s.heap.objs.size ∧ s₁ = { s with heap := s.heap.push (freshS w) }) ⟨rfl, rfl⟩) fun r s₁ hr => ?_
  cases r with
  | error er => exact hr
  | ok fl =>
  cases fl with
  | ret ob =>
    obtain ⟨rfl, rfl⟩ := hr
    have gS : (s.heap.push (freshS w)).get? s.heap.objs.size = some (freshS w) := Heap.get?_push_size _ rfl
    have tS : Shared.TypeIs { s with heap := s.heap.push (freshS w) } (.ref s.heap.objs.size) "set" := ⟨_, gS, rfl⟩
    have lo := F.called_set.init.lookup
    have bi := F.called_set.init.bind (Value.ref s.heap.objs.size)
    repeat (any_goals (first | wp_step | assumption))
    refine codeAny_mono (codeAny_call_builtin (R := wants (fun r s₂ => r = .none ∧ ∃ h' tk c, s₂ = { s with heap := h', toks := tk } ∧ SetR w h' s.heap.objs.size (fun j => decide (j ∈ ns)) c ∧ c ≤ ns.length ∧ (∀ b o, s.heap.get? b = some o → h'.get? b = some o)) E) F.called_set.init.plain F.entry_set_init (check_set_init_1 tS ?_)) fun r₂ s₂ hr₂ => ?_
    · obtain ⟨⟨ocl, odi, oda, osl⟩, gl, cl, nl, dl⟩ := hl
      dsimp only at cl dl
      subst cl dl
      have gl1 : (s.heap.push (freshS w)).get? l = some { cls := .type "list", dict := odi, data := .seq xs nl, slots := osl } := Heap.get?_push_of_some _ gl
      have e1 := F.sub_list_set
      have e2 := F.sub_list_frozenset
      have e3 : (Value.type "list" == Value.type "dict") = false := by decide +kernel
      have il : (s.heap.push (freshS w)).IsList l xs := ⟨_, gl1, rfl, nl, rfl⟩
      unfold Builtin.«set.__init__» Builtin.Frozenset.updateFrom noKeywords
      generalize hPI : pyIter = PI
      wp_walk
      subst hPI
      refine wpAny_pyIter_list il (wpAny_bind (wpAny_runValue ?_))
      have ls : l < s.heap.objs.size := Heap.lt_size gl
      have h3 : A.in1.in1.in1.handled = none := by simp only [Around.in1, hh]
      have zp : (s.heap.push (freshS w)).objs.size = s.heap.objs.size + 1 := Heap.size_push ..
      have ni : l ≠ (s.heap.push (freshS w)).objs.size := Nat.ne_of_lt (by rw [zp]; exact Nat.lt_succ_of_lt ls)
      have nf : s.heap.objs.size ∉ [(s.heap.push (freshS w)).objs.size, l] := by
        intro z
        simp only [List.mem_cons, List.not_mem_nil, or_false] at z
        rcases z with z | z
        · rw [zp] at z; exact absurd z (Nat.ne_of_lt (Nat.lt_succ_self _))
        · exact absurd z (Nat.ne_of_gt ls)
      have vl : ∀ (i : Nat) (v : Value), xs[i]? = some v → ∃ k t, ns[i]? = some k ∧ v = .int k t := fun i v hv => by
        have hi : i < ns.length := by rw [← zn]; exact (Array.getElem?_eq_some_iff.mp hv).1
        obtain ⟨t, e⟩ := IntsAre.int_at hit i v (by rw [Array.getElem?_toList]; exact hv)
        refine ⟨ns.getD i 0, t, ?_, e⟩
        rw [List.getD_eq_getElem?_getD, List.getElem?_eq_getElem hi]
        rfl
      refine set_update_ints ((Walks.list h3 _ l ni xs).toS) s.heap.objs.size nf ns zn hb vl (xs.size - 0) 0 _ (by omega) (Nat.zero_le _) ⟨⟨_, Heap.get?_push_size _ rfl, rfl, rfl⟩, il.push _⟩ ?w0 ?w1
      case w0 => exact ⟨0, Nat.le_refl 0, setR_new_at (Heap.get?_push_of_some _ gS)⟩
      case w1 =>
        intro s' c' hm hc' hS'
        obtain ⟨h', g2, d', tk', os'⟩ := s'
        obtain rfl : g2 = s.gens := hm.gens
        obtain rfl : d' = s.drawn := hm.drawn
        obtain rfl : os' = s.os := hm.os
        refine wpAny_pure (show wpAny _ _ (ret Value.none) _ _ _ from wpAny_pure ⟨rfl, h', tk', c', rfl, hS', by omega, fun b o e => ?_⟩)
        have b0 : b < s.heap.objs.size := Heap.lt_size e
        refine hm.heap b o (fun z => ?_) (Heap.get?_push_of_some _ (Heap.get?_push_of_some _ e))
        simp only [List.mem_cons, List.not_mem_nil, or_false] at z
        rcases z with z | z
        · exact absurd z (Nat.ne_of_lt b0)
        · exact absurd z (Nat.ne_of_lt (by rw [zp]; exact Nat.lt_succ_of_lt b0))
    · cases r₂ with
      | error er => exact hr₂
      | ok fl₂ =>
      cases fl₂ with
      | ret r =>
        obtain ⟨rfl, h', tk, c', rfl, hS', hc', hk'⟩ := hr₂
        repeat (any_goals (first | wp_step | assumption))
        exact h _ _ _ hS' hc' hk'
      | _ => exact hr₂.elim
  | _ => exact hr.elim
end
theorem sortSet_at {X : Cx} {pins : List (Addr × Obj)} {σ : L2.St} {H1 : Hp} {s2 : Shared} {Q : VK} {a : Addr} {ns : List Int} {c : Nat} (hc : X.calm = true) (I2 : Inv X pins σ H1 s2) (hS : SetR X.w s2.heap a (fun j => decide (j ∈ ns)) c) (h64 : c < 64)
    (q : ∀ (js : List Int) (p : Addr), js.Pairwise (· < ·) → (∀ k : Int, k ∈ js ↔ k ∈ ns) → H1 p = none → Q (.ref p) (upd H1 p (.lst (js.map V.int)))) :
    wpAny (model X.prog X.w) X.A (call (.builtin "sorted") [.ref a]) (EP X pins σ Q) X.xe s2 := by
  refine sorted_set hS (I2.ok.hd hc) h64 fun s' p out c2 js k g o hp hg hi hs hm hl2 => ?_
  have hlen : (js.map V.int).length ≤ sizeLine := by rw [List.length_map, hl2, sizeLine_eq]; omega
  have hn : H1 p = none := I2.hok.fresh hp
  have J : Inv X pins σ (upd H1 p (.lst (js.map V.int))) { s2 with heap := s'.heap, gens := s'.gens, drawn := s'.drawn, toks := s'.toks } :=
    I2.call (ch := []) (Un.laid k hp hn) (I2.hok.laid k hp ⟨hlen, out.toList, c2, vals_of_ints hi, hg⟩) (by rw [g]; exact I2.bare) (fun _ z => nomatch z)
  have e : s' = { s2 with heap := s'.heap, gens := s'.gens, drawn := s'.drawn, toks := s'.toks } := by
    obtain ⟨_, _, _, _, _⟩ := s'
    obtain ⟨_, _, _, _, _⟩ := s2
    cases o
    rfl
  rw [e]
  exact ⟨.ref p, _, J, rfl, q js p hs (fun k => by rw [hm k, decide_eq_true_iff]) hn⟩
end Dl
end
section
set_option maxHeartbeats 4000000
namespace Dl
open PySem PySem.Spec PyProof.Rows L2
def dSeqJ (t u v : TSd) : TSd := fun E Γ => ∃ J : Gm → Prop, t { E with nx := u { E with nx := J } } Γ ∧ ∀ Γ', J Γ' → v E Γ'
theorem ds_cons2J {X : Cx} {st st2 : Stmt} {rest : List Stmt} {t u v : TSd} (h1 : DS X st t) (h2 : DS X st2 u) (h3 : DSs X rest v) : DSs X (st :: st2 :: rest) (dSeqJ t u v) := pssI (pss_cons h1 (pss_cons h2 h3)) fun D σ H ⟨G0, Γ, F, E, R1, ⟨J, k1, k2⟩, q⟩ =>
  ⟨G0, Γ, F, { E with nx := u { E with nx := J } }, R1, k1, ⟨fun Γ1 σ1 H1 k R2 => ⟨G0, Γ1, F, { E with nx := J }, R2, k, ⟨fun Γ2 σ2 H2 k R3 => ⟨G0, Γ2, F, E, R3, k2 Γ2 k, q⟩, q.rt, q.bk, q.ct⟩⟩, q.rt, q.bk, q.ct⟩⟩
theorem nodup_leL {α : Type} [DecidableEq α] : ∀ {l m : List α}, l.Nodup → (∀ x ∈ l, x ∈ m) → l.length ≤ m.length
  | [], _, _, _ => Nat.zero_le _
  | a :: l, m, hn, h => by
    obtain ⟨h1, h2⟩ := List.nodup_cons.mp hn
    have ha : a ∈ m := h a List.mem_cons_self
    have := nodup_leL (l := l) (m := m.erase a) h2 fun x hx => (List.mem_erase_of_ne fun z => h1 (by rw [← z]; exact hx)).mpr (h x (List.mem_cons_of_mem _ hx))
    rw [List.length_erase_of_mem ha] at this
    have hp := List.length_pos_of_mem ha
    rw [List.length_cons]
    omega
theorem setR_few {w : World} {h : Heap} {a : Addr} {ns m : List Int} {c : Nat} (hS : SetR w h a (fun j => decide (j ∈ ns)) c) (hm : ∀ k ∈ ns, k ∈ m) : c ≤ m.length := by
  obtain ⟨o, es, ep, t, _, _, _, _, h5, h6, _, _, h9, _⟩ := hS
  rw [← h9, ← Array.length_toList, ← List.length_map (f := keyOf)]
  exact nodup_leL h5 fun k hk => hm k (of_decide_eq_true ((h6 k).mpr hk))
def tSortSetW (K : PySem.W.Frag) (ta : TE) : TE := fun σ H Q => ta σ H fun x H1 => ∃ (l : Addr) (ns m : List Int), x = .ref l ∧ SqL K H1 l (ns.map V.int) ∧ ns.length ≤ 4000 ∧ m.length ≤ 60 ∧ (∀ k ∈ ns, k ∈ m) ∧
  ∀ (js : List Int) (p : Addr), js.Pairwise (· < ·) → (∀ k : Int, k ∈ js ↔ k ∈ ns) → H1 p = none → Q (.ref p) (upd H1 p (.lst (js.map V.int)))
theorem pe_sortSetW {X : Cx} {a : Expr} {ta : TE} {p p2 q pos : Pos} (hg : Gl X "sorted") (hm : X.mg "sorted" = none) (hg2 : Gl X "set") (hm2 : X.mg "set" = none) (ha : PE X a ta) (hc : X.calm = true := by rfl)
    (na : starEach [a] X.env = (false, eval a X.env) :: starEach [] X.env := by rfl) : PE X (.Call (.Name "sorted" p) [.Call (.Name "set" p2) [a] [] q] [] pos) (tSortSetW X.K ta) := by
  refine ⟨fun pins s σ H Q I h => ?_⟩
  refine Call_ (ld_blt I hg hm PyProof.Rows.boot_sorted ?_)
  refine PyProof.Rows.callWith_builtin1 (PyProof.Rows.args_cons ?_ rfl) rfl rfl
  refine Call_ (ld_blt I hg2 hm2 PyProof.Rows.boot_set ?_)
  refine PyProof.Rows.callWith_type1 (PyProof.Rows.args_cons (thn (ha.run pins s σ H _ I h) fun v s1 ⟨x, H1, I1, r1, q1⟩ => PyProof.Rows.args_nil ?_) na) na rfl
  obtain ⟨l, ns, m, rfl, hq, hl, hm60, hms, q1⟩ := q1
  cases r1
  obtain ⟨its, r, pl, hz⟩ := I1.list hq
  refine set_of_listR ns (I1.ok.hd hc) pl.isList (by simpa using RZ.intsAre_vals r) (by unfold scanBound; omega) fun h' tk c hS hcl hk => PyProof.Rows.args_nil ?_
  have I2 : Inv X pins σ H1 { s1 with heap := h', toks := tk } := I1.kept fun b o e => hk b o e
  have := setR_few hS hms
  exact sortSet_at hc I2 hS (by omega) q1
def dSortSetW (τ : TEd) : TEd := fun Γ Kt => τ Γ fun o Γ1 => match vw Γ1 o with
  | some (.list ds) => ∃ ns m : List Int, ds = ns.map .int ∧ ns.length ≤ 4000 ∧ m.length ≤ 60 ∧ (∀ k ∈ ns, k ∈ m) ∧ ∀ js : List Int, js.Pairwise (· < ·) → (∀ k : Int, k ∈ js ↔ k ∈ ns) → Kt (.own (js.map .int)) Γ1
  | _ => False
theorem de_sortSetW {X : Cx} {τ : TEd} {a : Expr} {pos p p2 q : Pos} (hg : Gl X "sorted") (hm : X.mg "sorted" = none) (hg2 : Gl X "set") (hm2 : X.mg "set" = none) (ha : DE X a τ) (hc : X.calm = true := by rfl)
    (na : starEach [a] X.env = (false, eval a X.env) :: starEach [] X.env := by rfl) : DE X (.Call (.Name "sorted" p) [.Call (.Name "set" p2) [a] [] q] [] pos) (dSortSetW τ) :=
  peI (pe_sortSetW hg hm hg2 hm2 ha hc na) fun σ H Q ⟨G0, Γ, T, F, Kt, R1, k, q⟩ => ⟨G0, Γ, T, F, _, R1, k, fun o Γ1 v H1 k1 R2 => by
    cases hv : vw Γ1 o with
    | none => simp only [hv] at k1
    | some d =>
      cases d with
      | list ds =>
        simp only [hv] at k1
        obtain ⟨ns, m, rfl, hl, hm60, hms, k2⟩ := k1
        have hd := R2.view hv
        cases hd with
        | lst h1 h2 =>
          have e := dpAll_ints_inv h2
          rw [e] at h1
          refine ⟨_, ns, m, rfl, SqL.of h1, hl, hm60, hms, fun js p h3 h4 hp => q _ Γ1 _ _ (k2 js h3 h4) ?_⟩
          exact Rel.newL (M := []) (fit_sorted.ints_F R2.drop js) (by rw [List.length_map, List.length_map]) hp
      | _ => simp only [hv] at k1⟩
end Dl
end
section
set_option maxHeartbeats 4000000
namespace Kx
open PySem PySem.Spec PyProof.Rows L2 Dl
local macro_rules | `(tactic| walk_at "dd") => `(tactic| simp only [dC, dVar, dBin, dTest, onB, dNotT, dAndT, dOrT, dAndV, dOrV, dNotV, dIf, dNil, dCons, dCB, dSeqI, dRng1, dRng2, dEnI, dZpI, escs, esc, fix1, fixN, mov, vw, vk, see, seeAll, dNext, dSeq, dBreak, dCont, dExpr, dRet, dRetN, dIfS, dSet, dMulti, putN, gdName, gdNil, gdCons, gdTup, dFor, dWhile, dCallP, dCallV, vws, isScal, onBox, dCallB, dTup, dLst, dLstO, dIx, onI2, dNegI, dAdd2, addD, dEq2, eqK, dIn2, dLen, onI1, onI12, dInt1, onInts, dToL, dToT, onBs, dMeth, isOwn, rhoApp, rhoPopAt, dStore, dRep2, dNoP, dPart, dSlice, wipeG, dYes, dLc, dIsi, dIsNT, dIsN, nonOf, dAug, dUnp, dKwP, pick, dNewD, dUpd, onPairs, dSortD, onIntsA, onOlAt, dAppT, dCallS, dLenS, dIxS, dLc2, lcTurn, List.getD_cons_zero, List.getD_cons_succ, Nat.zero_le, zl1, zl2, zl3, zl4, zl5, zl6, zl7, zl8, zl9, zl10, zl11, ls1, ls2, ls3, ls4, eq_self, Nat.reduceAdd, Nat.reduceEqDiff, itemsOf_list, itemsOf_tuple, Dl.get, Dl.put, List.length_cons, List.length_nil, List.map_cons, List.map_nil, id, true_and, and_true, true_implies, forall_const, Bool.not_true, Bool.not_false, reduceCtorEq, false_implies, Nat.zero_add, ite_true, ite_false, Bool.true_eq_false, Bool.false_eq_true])
local macro_rules | `(tactic| walk_at "w") => `(tactic| conv => whnf)
local macro_rules | `(tactic| walk_at "cb") => `(tactic| ((conv => whnf); refine ⟨rfl, rfl, Nat.zero_lt_succ _, ?_⟩; (conv => whnf)))
local macro_rules | `(tactic| walk_at "cp") => `(tactic| ((conv => whnf); refine ⟨rfl, ?_⟩; (conv => whnf)))
local macro_rules | `(tactic| walk_at "a") => `(tactic| ((conv => whnf); repeat (first | (refine ⟨leS rfl, ?_⟩; (conv => whnf)) | (refine ⟨trivial, ?_⟩; (conv => whnf)) | (refine ⟨rfl, ?_⟩; (conv => whnf)) | (refine ⟨Nat.zero_lt_succ _, ?_⟩; (conv => whnf)) | (refine ⟨(show (2 : Nat) < _ from ltN rfl), ?_⟩; (conv => whnf)) | (refine ⟨(show Dl.inR _ from (by unfold Dl.inR; omega)), ?_⟩; (conv => whnf)) | (refine ⟨fun _ => ?_, fun z => Bool.noConfusion (show true = false from z)⟩; (conv => whnf)) | (refine ⟨fun z => Bool.noConfusion (show false = true from z), fun _ => ?_⟩; (conv => whnf))); try (first | refine norm_ex (by dsimp only [Dl.put, Dl.wipeG, Dl.putN, puts]) ?_ | refine norm_lc (by dsimp only [Dl.put, Dl.wipeG, Dl.putN, puts]) ?_)))
local macro_rules | `(tactic| walk_at "b") => `(tactic| ((try dsimp only [puts, Dl.put, Dl.putN, Dl.wipeG]); walk_at "a"))
local macro_rules | `(tactic| walk_at "d") => `(tactic| ((walk_at "b"); dsimp only))
section
variable {P : Program} {w : World} {K : PySem.W.Frag} {mg : Str → Option Value} {base : Heap}
def phRight : Nat → List PyData → (O → Nat → Prop) → Prop := fun m ds Kt => ds = [] ∧ m < 2 ^ 55 ∧ ∀ m', m' ≤ m + 10000 → Kt (.fz (.bool true)) m'
theorem st_right (a0 : O) : startG ["_law_box_here", "_law_rail_here", "_law_park", "_law_found", "_law_every", "_law_soft", "_law_first", "_law_due", "_law_there", "_law_told", "_law_second", "_law_cart", "_law_odd", "_law_here", "_law_kind"] [a0] = [some a0, none, none, none, none, none, none, none, none, none, none, none, none, none, none] := rfl
theorem can_right (D : At K mg "_law_right" s_right ["_law_box_here"]) (B : Blt mg) {cNoTrain cInside cNoNumber cNoPlace : Addr} (c_scene : Can P w K mg base 5 "_law_scene" ["_law_box_here", "_law_most", "_law_top", "_law_carts_here"] (spB K 3 phScene3)) (c_reached : Can P w K mg base 4 "_law_reached" ["_law_rail_here", "_law_park", "_law_most"] (spP K 3 (phReached P w K))) (c_carts : Can P w K mg base 1 "_law_carts" ["_law_park"] (spP K 1 phCarts)) (c_lists : Can P w K mg base 4 "_law_lists" ["_law_part"] (spP K 1 (phLists 3))) (cw_places_of : CanXW P w K mg base 8 "places_of" ["line", "standing", "train"] ["train", "standing", "line"] [2, 1, 0] (spX K 3 (phPlacesOf cNoTrain))) (c_same : Can P w K mg base 4 "_law_same" ["_law_found", "_law_due"] (spP K 2 (phSame 3))) (cw_may_meet : CanXW P w K mg base 8 "may_meet" ["line", "standing", "one", "other"] ["other", "one", "standing", "line"] [3, 2, 1, 0] (spX K 4 (phMeetX cNoTrain))) (cw_ever_ahead : CanXW P w K mg base 8 "ever_ahead" ["line", "standing", "one", "other"] ["other", "one", "standing", "line"] [3, 2, 1, 0] (spX K 4 (phEverX cNoTrain))) (c_spot : Can P w K mg base 1 "_law_spot" ["_law_park", "_law_cart"] (spP K 2 phSpot)) (c_missing : Can P w K mg base 9 "_law_missing" ["_law_kind", "_law_rail_here", "_law_park", "_law_first", "_law_second"] (spP K 5 phMissing)) (c_together : Can P w K mg base 2 "_law_together" ["_law_rail_here", "_law_park", "_law_first", "_law_second"] (spP K 4 phTog)) (c_ahead : Can P w K mg base 2 "_law_ahead" ["_law_rail_here", "_law_park", "_law_first", "_law_second"] (spP K 4 phAhead)) : Can P w K mg base (10) "_law_right" ["_law_box_here"] (spB K 0 phRight) := by
  refine D.canB sc_right rfl fun f cdv A outer s H E hr => ⟨_, (ds_cons (ds_unp (de_canB c_scene hr (da_cons (dv 0) (da_cons de_int (da_cons de_int (da_cons de_int da_nil))))) (dg_tup (n := 2) (dgs_cons (dg_name 1 sc_right.nd) (dgs_cons (dg_name 2 sc_right.nd) dgs_nil))))
    (ds_cons2J (ds_par3 3 4 5 sc_right.nd (da_cons (de_canP c_reached hr (da_cons (dv 1) (da_cons (dv 2) (da_cons de_int da_nil)))) (da_cons (de_canP c_carts hr (da_cons (dv 2) da_nil)) (da_cons (de_canP c_lists hr (da_cons (de_lst (da_cons (dv 1) (da_cons (dv 2) da_nil))) da_nil)) da_nil))))
    (ds_if (dt_isNd (dv 3)) (ds_cons (ds_set 3 sc_right.nd (de_ndisp (hu_in hr) (dv 2) de_int))
    (ds_single (ds_set 4 sc_right.nd (de_lst da_nil)))) ds_nil)
    (ds_cons (ds_frz [4] (ds_for (di_seq (dv 4)) (dg_name 6 sc_right.nd)
      (ds_cons (ds_set 7 sc_right.nd (de_sortSetW rfl B.sorted rfl B.set (de_lc sc_right.nd (di_nd 3 (pv 3)) (blkOk_by (own := [("_law_there", 8)]) (by rfl)) (fun _ _ _ _ _ => (dg_name 8 sc_right.nd)) (fun _ _ _ _ _ => dts_nil) (fun _ _ _ _ _ => (de_canP c_spot hr (da_cons (dv 8) (da_cons (dv 6) da_nil)))))))
    (ds_cons (ds_set 9 sc_right.nd (de_lstO (da_cons (de_canX cw_places_of.can hr (da_cons (dv 1) (da_cons (dv 2) (da_cons (dv 6) da_nil)))) (da_cons (de_kwX cw_places_of hr (dk_cons (dv 6) (dk_cons (de_ix (dv 5) de_int) (dk_cons (de_ix (dv 5) de_int) dk_nil)))) da_nil))))
    (ds_cons (ds_if (dt_not (dt_val (de_canV c_same hr (da_cons (dv 9) (da_cons (de_lst (da_cons (dv 7) (da_cons (dv 7) da_nil))) da_nil))))) (ds_single (ds_ret de_bl)) ds_nil)
    (ds_cons (ds_appAt 9 (pv 9))
    (ds_cons (ds_if (dt_not (dt_val (de_canV c_same hr (da_cons (de_canX cw_places_of.can hr (da_cons (dv 1) (da_cons (dv 2) (da_cons (dv 6) da_nil)))) (da_cons (dv 7) da_nil))))) (ds_single (ds_ret de_bl)) ds_nil)
    (ds_single (ds_for (di_seq (de_lc sc_right.nd (di_seq (dv 4)) (blkOk_by (own := [("_law_cart", 11)]) (by rfl)) (fun _ _ _ _ _ => (dg_name 11 sc_right.nd)) (fun _ _ _ _ _ => (dts_one (dt_ne hr (dv 11) (dv 6)))) (fun _ _ _ _ _ => (dv 11)))) (dg_name 10 sc_right.nd)
      (ds_cons (ds_set 7 sc_right.nd (de_lst (da_cons (de_b fit_any (cr_any rfl) rfl B.any (by decide +kernel) (da_cons (de_lc sc_right.nd (di_nd 3 (pv 3)) (blkOk_by (own := [("_law_there", 8)]) (by rfl)) (fun _ _ _ _ _ => (dg_name 8 sc_right.nd)) (fun _ _ _ _ _ => dts_nil) (fun _ _ _ _ _ => (de_canP c_together hr (da_cons (dv 1) (da_cons (dv 8) (da_cons (dv 6) (da_cons (dv 10) da_nil))))))) da_nil)) da_nil)))
    (ds_cons (ds_expr (de_append 7 (pv 7) (da_cons (de_b fit_all (cr_all rfl) rfl B.all (by decide +kernel) (da_cons (de_lc sc_right.nd (di_nd 3 (pv 3)) (blkOk_by (own := [("_law_there", 8)]) (by rfl)) (fun _ _ _ _ _ => (dg_name 8 sc_right.nd)) (fun _ _ _ _ _ => dts_nil) (fun _ _ _ _ _ => (de_canP c_ahead hr (da_cons (dv 1) (da_cons (dv 8) (da_cons (dv 6) (da_cons (dv 10) da_nil))))))) da_nil)) da_nil)))
    (ds_cons (ds_if (dt_not (dt_val (de_canV c_same hr (da_cons (de_lst (da_cons (de_canX cw_may_meet.can hr (da_cons (dv 1) (da_cons (dv 2) (da_cons (dv 6) (da_cons (dv 10) da_nil))))) (da_cons (de_canX cw_ever_ahead.can hr (da_cons (dv 1) (da_cons (dv 2) (da_cons (dv 6) (da_cons (dv 10) da_nil))))) da_nil))) (da_cons (dv 7) da_nil))))) (ds_single (ds_ret de_bl)) ds_nil)
    (ds_cons (ds_set 9 sc_right.nd (de_lstO (da_cons (de_kwX cw_may_meet hr (dk_cons (dv 10) (dk_cons (dv 6) (dk_cons (de_ix (dv 5) de_int) (dk_cons (de_ix (dv 5) de_int) dk_nil))))) da_nil)))
    (ds_cons (ds_expr (de_appendO 9 (pv 9) (da_cons (de_kwX cw_ever_ahead hr (dk_cons (dv 10) (dk_cons (dv 6) (dk_cons (de_ix (dv 5) de_int) (dk_cons (de_ix (dv 5) de_int) dk_nil))))) da_nil)))
    (ds_single (ds_if (dt_not (dt_val (de_canV c_same hr (da_cons (dv 9) (da_cons (dv 7) da_nil))))) (ds_single (ds_ret de_bl)) ds_nil))))))))))))))))
    (ds_cons (ds_set 12 sc_right.nd (de_lst (da_cons (de_add (de_b fit_maxL (cr_max rfl) rfl B.max (by decide +kernel) (da_cons (de_add (de_lst (da_cons de_int da_nil)) (de_canP c_carts hr (da_cons (dv 2) da_nil))) da_nil)) de_int) (da_cons (de_neg de_int) (da_cons (de_powI de_int de_int) da_nil)))))
    (ds_cons (ds_for (di_seq (dv 12)) (dg_name 13 sc_right.nd)
      (ds_single (ds_if (dt_not (dt_val (de_canV c_same hr (da_cons (de_lc sc_right.nd (di_range1 rfl B.range (da_cons de_int da_nil)) (blkOk_by (own := [("_law_kind", 14)]) (by rfl)) (fun _ _ _ _ _ => (dg_name 14 sc_right.nd)) (fun _ _ _ _ _ => dts_nil) (fun _ _ _ _ _ => (de_canP c_missing hr (da_cons (dv 14) (da_cons (dv 1) (da_cons (dv 2) (da_cons (dv 13) (da_cons (de_add (de_ix (dv 12) de_int) de_int) da_nil)))))))) (da_cons (de_rep (de_lst (da_cons (dv 13) da_nil)) de_int) da_nil))))) (ds_single (ds_ret de_bl)) ds_nil)))
    (ds_cons (ds_for (di_seq (de_slice (de_canP c_carts hr (da_cons (dv 2) da_nil)) dp_none (dp_some de_int))) (dg_name 11 sc_right.nd)
      (ds_single (ds_if (dt_not (dt_val (de_canV c_same hr (da_cons (de_lc sc_right.nd (di_seq (de_tup (da_cons de_int (da_cons de_int da_nil)))) (blkOk_by (own := [("_law_kind", 14)]) (by rfl)) (fun _ _ _ _ _ => (dg_name 14 sc_right.nd)) (fun _ _ _ _ _ => dts_nil) (fun _ _ _ _ _ => (de_canP c_missing hr (da_cons (dv 14) (da_cons (dv 1) (da_cons (dv 2) (da_cons (dv 11) (da_cons (de_ix (dv 12) de_int) da_nil)))))))) (da_cons (de_rep (de_lst (da_cons (de_ix (dv 12) de_int) da_nil)) de_int) da_nil))))) (ds_single (ds_ret de_bl)) ds_nil)))
    (ds_single (ds_ret (de_eq hr (de_canP c_lists hr (da_cons (de_lst (da_cons (dv 1) (da_cons (dv 2) da_nil))) da_nil)) (dv 5)))))))))), fun p m ds Kt hl h => ?_⟩
  obtain ⟨rfl, hm, hk⟩ := h
  simp only [List.map_cons, List.map_nil]
  rw [st_right]
  walk_at "b"
  refine ⟨4, 3, 4, rfl, by decide, by decide, by decide, by decide, by decide, by decide, by omega, fun L S m1 l1 l2 hK h4 hS hc1 hc2 hm1 => ?_⟩
  have hc1 : S.flatten.length ≤ 4 := by omega
  have h5 : L.length ≤ 4 := by omega
  have hLn := ln_line L
  have hSl := hS.len
  have h40 : L.length ≤ 40 := by omega
  have s40 : S.flatten.length ≤ 40 := by omega
  have lz : (sortI S.flatten).length = S.flatten.length := sortI_len _
  have deepS : Deep 3 (.list [lineD L, stdD S]) := .list 2 _ (show (2 : Nat) < 100000 by decide) fun x he => by
    rcases List.mem_cons.mp he with e | he
    · rw [e]; exact deep_line h40 hK
    · rw [List.mem_singleton.mp he]; exact deep_std (by omega) s40
  have liS : listed (.list [lineD L, stdD S]) = .list [lineDL L, stdDL S] := by
    rw [← listed_line, ← listed_std]
    simp only [listed, listedAll]
  walk_at "b"
  refine ⟨fun Γ => ∃ (o : O) (ob : Obj) (Fs : Fnd) (Es : List Int), IsNd P w K o ob (fndT Fs) ∧ (Es = [] ∨ (Es = sortI S.flatten ∧ Rch L S Fs ∧ Fs.length ≤ 400)) ∧ Γ = [some (.box p m1), some (.fz (lineD L)), some (.fz (stdD S)), some o, some (.own (Es.map .int)), some (.own [lineDL L, stdDL S]), none, none, none, none, none, none, none, none, none], ?_, ?_⟩
  · walk_at "b"
    refine ⟨L, S, 400, 32000, rfl, hS, h40, hK, s40, by decide, reach_bound l1 h5 hc1, fun Fs ob hR hle => ?_, fun _ => ?_⟩
    · walk_at "b"
      refine ⟨_, S, rfl, st_std S, s40, ?_⟩
      walk_at "b"
      refine ⟨_, rfl, deepS, fun xs e => ?_, fun e => (e _ liS).elim⟩
      rw [liS] at e
      cases e
      walk_at "b"
      refine .inl ⟨3, ob, _, rfl, rfl, ?_⟩
      walk_at "b"
      exact ⟨_, ob, Fs, sortI S.flatten, .inl rfl, .inr ⟨rfl, hR, hle⟩, rfl⟩
    · walk_at "b"
      refine ⟨_, S, rfl, st_std S, s40, ?_⟩
      walk_at "b"
      refine ⟨_, rfl, deepS, fun xs e => ?_, fun e => (e _ liS).elim⟩
      rw [liS] at e
      cases e
      walk_at "b"
      refine .inr ⟨true, rfl, ?_⟩
      walk_at "b"
      refine ⟨stKs S, stK_data S, stK_depth S, fun ob => ?_⟩
      walk_at "b"
      exact ⟨_, ob, [(S, 0)], [], .inl rfl, .inl rfl, rfl⟩
  rintro Γ ⟨o, ob, Fs, Es, hnd, hEs, rfl⟩
  walk_at "b"
  refine ⟨fun i Γ => ∃ (o : O) (ob : Obj) (a6 a7 a8 a9 a10 a11 : Option O), IsNd P w K o ob (fndT Fs) ∧ Γ = [some (.box p m1), some (.fz (lineD L)), some (.fz (stdD S)), some o, some (.fz (.list (Es.map .int))), some (.own [lineDL L, stdDL S]), a6, a7, a8, a9, a10, a11, none, none, none], ⟨o, ob, none, none, none, none, none, none, hnd, rfl⟩, ?_, ?_⟩
  · rintro i Γ hi ⟨o, ob, a6, a7, a8, a9, a10, a11, hnd, rfl⟩
    rw [List.length_map] at hi
    obtain ⟨rfl, hR, hle⟩ : Es = sortI S.flatten ∧ Rch L S Fs ∧ Fs.length ≤ 400 := hEs.resolve_left fun z => by rw [z] at hi; exact absurd hi (Nat.not_lt_zero _)
    rw [show (fun i => ((sortI S.flatten).map PyData.int).getD i .none) i = .int ((sortI S.flatten).getD i 0) from getD_map_int hi]
    have ht : (sortI S.flatten).getD i 0 ∈ S.flatten := (sortI_perm _).mem_iff.mp (getD_mem2 0 hi)
    generalize (sortI S.flatten).getD i 0 = t at ht
    have hF := fun S' => keysF_iff (S' := S') hK h40 hS s40 hR
    have hFl : (fndT Fs).length = Fs.length := fnd_len Fs
    have hKl := keysF_len Fs
    walk_at "b"
    refine ⟨o, ob, _, rfl, hnd, ?_⟩
    refine lc_at (fun n => ((keysF Fs).take n).map fun S' => PyData.int ((plT S' t : Nat) : Int)) rfl ⟨?_, ?_⟩
    · rintro n acc Γ hn ⟨rfl, rfl⟩
      rw [hFl] at hn
      rw [show (fun j => ((fndT Fs).getD j (.none, .none)).1.data) n = stdD ((keysF Fs).getD n []) from fnd_key hn]
      obtain ⟨r1, r2, r3⟩ := (hF _).mp (keysF_mem hn)
      have rl := r1.len
      have ea := keysF_at (fun S' => PyData.int ((plT S' t : Nat) : Int)) hn
      generalize (keysF Fs).getD n [] = S' at r1 r2 r3 rl ea
      walk_at "b"
      refine ⟨_, S', t, _, rfl, st_std S', by omega, pl_at r1 (r2.mem_iff.mpr ht), ?_⟩
      walk_at "b"
      exact ⟨lt_size (by rw [List.length_map, List.length_take]; omega), ea, rfl⟩
    · rintro acc Γ ⟨rfl, rfl⟩
      rw [hFl, keysF_all]
      walk_at "b"
      refine ⟨(keysF Fs).map fun S' => ((plT S' t : Nat) : Int), (List.range L.length).map fun q : Nat => (q : Int), by rw [List.map_map]; rfl, by rw [List.length_map]; omega, by rw [List.length_map, List.length_range]; omega, fun k hk => ?_, fun js j1 j2 => ?_⟩
      · obtain ⟨S', h1, rfl⟩ := List.mem_map.mp hk
        obtain ⟨r1, r2, r3⟩ := (hF _).mp h1
        exact List.mem_map.mpr ⟨_, List.mem_range.mpr (by rw [← r1.len]; exact (pl_at r1 (r2.mem_iff.mpr ht)).1), rfl⟩
      rw [places_js hK h40 hS s40 hR ht j1 j2]
      walk_at "b"
      refine ⟨_, _, L, S, t, rfl, hLn, st_std S, h40, hK, s40, fun b hb => ?_, fun z => no_noGrp ht z⟩
      rw [← inGrp_ix hb]
      walk_at "b"
      refine ⟨_, _, L, S, t, rfl, ln_lineL L, st_stdL S, h40, hK, s40, fun b hb => ?_, fun z => no_noGrp ht z⟩
      rw [← inGrp_ix hb]
      have pl1 := places_len L S.flatten.length (gIx (grpsT L S.flatten) t) L.length
      have dP : Deep 2 (.list (natsD (placesT L S.flatten.length (gIx (grpsT L S.flatten) t)))) := deep_nats 1 (by unfold placesT; omega)
      have dP3 : Deep 3 (.list (natsD (placesT L S.flatten.length (gIx (grpsT L S.flatten) t)))) := deep_nats 2 (by unfold placesT; omega)
      walk_at "b"
      refine ⟨_, rfl, deep_two dP, ?_⟩
      walk_at "b"
      refine ⟨Int.le_refl _, ?_⟩
      walk_at "b"
      refine ⟨lt_size (by rw [natsD_len]; unfold placesT; omega), ?_⟩
      walk_at "b"
      refine ⟨_, _, L, S, t, rfl, hLn, st_std S, h40, hK, s40, fun b hb => ?_, fun z => no_noGrp ht z⟩
      rw [← inGrp_ix hb]
      walk_at "b"
      refine ⟨_, rfl, dP3, ?_⟩
      walk_at "b"
      have hsl : (sortI S.flatten).length ≤ 4 := by omega
      refine lc_at (fun n => (dropT ((sortI S.flatten).take n) t).map PyData.int) rfl ⟨?_, ?_⟩
      · rintro n acc Γ hn ⟨rfl, rfl⟩
        rw [List.length_map] at hn
        rw [show (fun i => ((sortI S.flatten).map PyData.int).getD i .none) n = .int ((sortI S.flatten).getD n 0) from getD_map_int hn]
        have ea := drop_at (l := sortI S.flatten) (t := t) hn
        walk_at "b"
        refine ⟨fun q => ?_, fun q => ?_⟩
        · have q : (sortI S.flatten).getD n 0 ≠ t := by simpa using q
          rw [if_pos q] at ea
          walk_at "b"
          have hz : (dropT ((sortI S.flatten).take n) t).length ≤ ((sortI S.flatten).take n).length := List.length_filter_le _ _
          refine ⟨lt_size (by rw [List.length_map]; rw [List.length_take] at hz; omega), ?_, rfl⟩
          rw [ea, List.map_append]
          rfl
        · have q : ¬ (sortI S.flatten).getD n 0 ≠ t := by simpa using q
          rw [if_neg q, List.append_nil] at ea
          walk_at "b"
          exact ⟨by rw [ea], rfl⟩
      · rintro acc Γ ⟨rfl, rfl⟩
        rw [List.length_map, List.take_length]
        walk_at "b"
        refine ⟨fun j Γ => ∃ (o : O) (ob : Obj) (a7 a8 a9 a10 a11 : Option O), IsNd P w K o ob (fndT Fs) ∧ Γ = [some (.box p m1), some (.fz (lineD L)), some (.fz (stdD S)), some o, some (.fz (.list ((sortI S.flatten).map .int))), some (.own [lineDL L, stdDL S]), some (.fz (.int t)), a7, a8, a9, a10, a11, none, none, none], ⟨_, ob, _, _, _, _, _, .inr rfl, rfl⟩, ?_, ?_⟩
        · rintro j Γ hj ⟨o, ob, a7, a8, a9, a10, a11, hnd, rfl⟩
          rw [List.length_map] at hj
          rw [getD_map_int hj]
          obtain ⟨hu, hne⟩ := drop_mem.mp (getD_mem2 (0 : Int) hj)
          have hu : (dropT (sortI S.flatten) t).getD j 0 ∈ S.flatten := (sortI_perm _).mem_iff.mp hu
          generalize (dropT (sortI S.flatten) t).getD j 0 = u at hu hne
          have hne : t ≠ u := Ne.symm hne
          walk_at "b"
          refine ⟨o, ob, _, rfl, hnd, ?_⟩
          refine lc_at (fun n => ((keysF Fs).take n).map fun S' => PyData.bool (togT L S' t u)) rfl ⟨?_, ?_⟩
          · rintro n acc Γ hn ⟨rfl, rfl⟩
            rw [hFl] at hn
            rw [show (fun j => ((fndT Fs).getD j (.none, .none)).1.data) n = stdD ((keysF Fs).getD n []) from fnd_key hn]
            obtain ⟨r1, r2, r3⟩ := (hF _).mp (keysF_mem hn)
            have ea := keysF_at (fun S' => PyData.bool (togT L S' t u)) hn
            generalize (keysF Fs).getD n [] = S' at r1 r2 r3 ea
            walk_at "b"
            refine ⟨L, S', t, u, rfl, r1, h40, hK, by rw [r2.length_eq]; exact s40, r2.mem_iff.mpr ht, r2.mem_iff.mpr hu, ?_⟩
            walk_at "b"
            exact ⟨lt_size (by rw [List.length_map, List.length_take]; omega), ea, rfl⟩
          · rintro acc Γ ⟨rfl, rfl⟩
            rw [hFl, keysF_all]
            walk_at "b"
            refine ⟨(keysF Fs).map fun S' => togT L S' t u, by rw [List.map_map]; rfl, ?_⟩
            walk_at "w"
            rw [any_tog hK h40 hS s40 hR ht hu hne]
            walk_at "b"
            refine ⟨_, ob, _, rfl, .inr rfl, ?_⟩
            refine lc_at (fun n => ((keysF Fs).take n).map fun S' => PyData.bool (aheadT L S' t u)) rfl ⟨?_, ?_⟩
            · rintro n acc Γ hn ⟨rfl, rfl⟩
              rw [hFl] at hn
              rw [show (fun j => ((fndT Fs).getD j (.none, .none)).1.data) n = stdD ((keysF Fs).getD n []) from fnd_key hn]
              obtain ⟨r1, r2, r3⟩ := (hF _).mp (keysF_mem hn)
              have ea := keysF_at (fun S' => PyData.bool (aheadT L S' t u)) hn
              generalize (keysF Fs).getD n [] = S' at r1 r2 r3 ea
              walk_at "b"
              refine ⟨L, S', t, u, rfl, r1, h40, hK, by rw [r2.length_eq]; exact s40, r2.mem_iff.mpr ht, r2.mem_iff.mpr hu, ?_⟩
              walk_at "b"
              exact ⟨lt_size (by rw [List.length_map, List.length_take]; omega), ea, rfl⟩
            · rintro acc Γ ⟨rfl, rfl⟩
              rw [hFl, keysF_all]
              walk_at "b"
              refine ⟨(keysF Fs).map fun S' => aheadT L S' t u, by rw [List.map_map]; rfl, ?_⟩
              walk_at "w"
              rw [all_ahead hK h40 hS s40 hR ht hu hne]
              have dB : ∀ x y : Bool, Deep 3 (.list [.bool x, .bool y]) := fun x y => .list 2 _ (show (2 : Nat) < 100000 by decide) fun d hd => by
                rcases List.mem_cons.mp hd with e | hd
                · rw [e]; exact .bool _ _
                · rw [List.mem_singleton.mp hd]; exact .bool _ _
              walk_at "b"
              refine ⟨_, _, L, S, t, u, rfl, hLn, st_std S, h40, hK, s40, hS.nodup, fun _ _ => ?_, fun z => z ht, fun _ z => z hu⟩
              walk_at "b"
              refine ⟨_, _, L, S, t, u, rfl, hLn, st_std S, h40, hK, s40, hS.nodup, fun _ _ => ?_, fun z => z ht, fun _ z => z hu⟩
              walk_at "b"
              refine ⟨_, rfl, dB _ _, ?_⟩
              walk_at "b"
              refine ⟨_, _, L, S, t, u, rfl, ln_lineL L, st_stdL S, h40, hK, s40, hS.nodup, fun _ _ => ?_, fun z => z ht, fun _ z => z hu⟩
              walk_at "b"
              refine ⟨_, _, L, S, t, u, rfl, ln_lineL L, st_stdL S, h40, hK, s40, hS.nodup, fun _ _ => ?_, fun z => z ht, fun _ z => z hu⟩
              walk_at "b"
              refine ⟨_, rfl, dB _ _, ?_⟩
              walk_at "b"
              exact ⟨_, ob, _, _, _, _, _, .inr rfl, rfl⟩
        · rintro Γ ⟨o, ob, a7, a8, a9, a10, a11, hnd, rfl⟩
          walk_at "b"
          exact ⟨o, ob, _, _, _, _, _, _, hnd, rfl⟩
  · rintro Γ ⟨o, ob, a6, a7, a8, a9, a10, a11, hnd, rfl⟩
    walk_at "b"
    refine ⟨_, S, rfl, st_std S, s40, ?_⟩
    walk_at "b"
    refine ⟨le_size (by rw [List.length_map, List.length_singleton]; omega), ?_⟩
    walk_at "b"
    refine ⟨0 :: sortI S.flatten, rfl, ?_⟩
    walk_at "b"
    intro x hx hmax
    have nx : x + 1 ∉ S.flatten := fun z => by
      have := hmax _ (List.mem_cons_of_mem _ ((sortI_perm _).mem_iff.mpr z))
      omega
    have n1 : (-1 : Int) ∉ S.flatten := fun z => by
      have := hS.nonneg _ z
      omega
    have n2 : ((10 : Int) ^ Int.toNat 20) ∉ S.flatten := fun z => by
      have := (hS.nonneg _ z).2
      exact absurd this (by decide)
    walk_at "b"
    refine ⟨⟨by decide, by decide, by decide⟩, ?_⟩
    walk_at "b"
    refine ⟨fun i Γ => ∃ a13 a14 : Option O, Γ = [some (.box p m1), some (.fz (lineD L)), some (.fz (stdD S)), some o, some (.fz (.list (Es.map .int))), some (.own [lineDL L, stdDL S]), a6, a7, a8, a9, a10, a11, some (.fz (.list [.int (x + 1), .int (-1), .int (10 ^ Int.toNat 20)])), a13, a14], ⟨none, none, rfl⟩, ?_, ?_⟩
    · rintro i Γ hi ⟨a13, a14, rfl⟩
      have hi3 : i < 3 := hi
      obtain ⟨q, hq, nq⟩ : ∃ q : Int, (fun i => ([PyData.int (x + 1), .int (-1), .int (10 ^ Int.toNat 20)] : List PyData).getD i .none) i = .int q ∧ q ∉ S.flatten := by
        rcases (show i = 0 ∨ i = 1 ∨ i = 2 by omega) with rfl | rfl | rfl
        · exact ⟨_, rfl, nx⟩
        · exact ⟨_, rfl, n1⟩
        · exact ⟨_, rfl, n2⟩
      rw [hq]
      walk_at "b"
      refine lc_at (fun n => List.replicate n (PyData.int q)) rfl ⟨?_, ?_⟩
      · rintro n acc Γ hn ⟨rfl, rfl⟩
        have hn3 : n < 3 := hn
        walk_at "b"
        rw [Int.zero_add]
        refine ⟨n, L, S, q, x + 1 + 1, rfl, hn3, h40, hK, s40, hS.nodup, .inl ⟨nq, ?_⟩⟩
        walk_at "b"
        exact ⟨lt_size (by rw [List.length_replicate]; omega), rep_snoc _ _, rfl⟩
      · rintro acc Γ ⟨rfl, rfl⟩
        walk_at "b"
        refine ⟨⟨by decide, by decide, le_size (show (3 : Nat) < 1000 by decide)⟩, ?_⟩
        walk_at "b"
        refine ⟨_, rfl, .list 2 _ (show (3 : Nat) < 100000 by decide) fun d hd => by rw [List.eq_of_mem_replicate hd]; exact .int _ _, ?_⟩
        walk_at "b"
        exact ⟨_, _, rfl⟩
    · rintro Γ ⟨a13, a14, rfl⟩
      walk_at "b"
      refine ⟨_, S, rfl, st_std S, s40, ?_⟩
      walk_at "b"
      have hcut : Dl.cutD ((sortI S.flatten).map PyData.int) none (some 1) = ((sortI S.flatten).take 1).map PyData.int := cut_to _ _ 1
      rw [hcut]
      refine ⟨fun i Γ => ∃ a11 a13 a14 : Option O, Γ = [some (.box p m1), some (.fz (lineD L)), some (.fz (stdD S)), some o, some (.fz (.list (Es.map .int))), some (.own [lineDL L, stdDL S]), a6, a7, a8, a9, a10, a11, some (.fz (.list [.int (x + 1), .int (-1), .int (10 ^ Int.toNat 20)])), a13, a14], ⟨_, _, _, rfl⟩, ?_, ?_⟩
      · rintro i Γ hi ⟨a11, a13, a14, rfl⟩
        rw [List.length_map] at hi
        rw [getD_map_int hi]
        have hu : ((sortI S.flatten).take 1).getD i 0 ∈ S.flatten := (sortI_perm _).mem_iff.mp (List.mem_of_mem_take (getD_mem2 0 hi))
        generalize ((sortI S.flatten).take 1).getD i 0 = u at hu
        walk_at "b"
        refine lc_at (fun n => List.replicate n (PyData.int (-1))) rfl ⟨?_, ?_⟩
        · rintro n acc Γ hn ⟨rfl, rfl⟩
          have hn2 : n < 2 := hn
          obtain ⟨k, hk2, hk0, hk3⟩ : ∃ k : Nat, (fun i => ([PyData.int 1, .int 2] : List PyData).getD i .none) n = .int (k : Nat) ∧ k ≠ 0 ∧ k < 3 := by
            rcases (show n = 0 ∨ n = 1 by omega) with rfl | rfl
            · exact ⟨1, rfl, by decide, by decide⟩
            · exact ⟨2, rfl, by decide, by decide⟩
          rw [hk2]
          walk_at "b"
          refine ⟨k, L, S, u, -1, rfl, hk3, h40, hK, s40, hS.nodup, .inr ⟨hk0, hu, n1, ?_⟩⟩
          walk_at "b"
          exact ⟨lt_size (by rw [List.length_replicate]; omega), rep_snoc _ _, rfl⟩
        · rintro acc Γ ⟨rfl, rfl⟩
          walk_at "b"
          refine ⟨⟨by decide, by decide, le_size (show (2 : Nat) < 1000 by decide)⟩, ?_⟩
          walk_at "b"
          refine ⟨_, rfl, .list 2 _ (show (2 : Nat) < 100000 by decide) fun d hd => by rw [List.eq_of_mem_replicate hd]; exact .int _ _, ?_⟩
          walk_at "b"
          exact ⟨_, _, _, rfl⟩
      · rintro Γ ⟨a11, a13, a14, rfl⟩
        walk_at "b"
        refine ⟨_, rfl, deepS, fun xs e => ?_, fun e => (e _ liS).elim⟩
        rw [liS] at e
        cases e
        walk_at "b"
        refine ⟨(eq_lists hS h40 hK s40).1, ?_⟩
        rw [(eq_lists hS h40 hK s40).2]
        walk_at "b"
        exact ⟨m1, rfl, hk m1 (by omega)⟩
end
end Kx
end
section
set_option maxHeartbeats 4000000
namespace Kx
open PySem PySem.Spec PyProof.Rows L2 Dl
local macro_rules | `(tactic| walk_at "dd") => `(tactic| simp only [dC, dVar, dBin, dTest, onB, dNotT, dAndT, dOrT, dAndV, dOrV, dNotV, dIf, dNil, dCons, dCB, dSeqI, dRng1, dRng2, dEnI, dZpI, escs, esc, fix1, fixN, mov, vw, vk, see, seeAll, dNext, dSeq, dBreak, dCont, dExpr, dRet, dRetN, dIfS, dSet, dMulti, putN, gdName, gdNil, gdCons, gdTup, dFor, dWhile, dCallP, dCallV, vws, isScal, onBox, dCallB, dTup, dLst, dLstO, dIx, onI2, dNegI, dAdd2, addD, dEq2, eqK, dIn2, dLen, onI1, onI12, dInt1, onInts, dToL, dToT, onBs, dMeth, isOwn, rhoApp, rhoPopAt, dStore, dRep2, dNoP, dPart, dSlice, wipeG, dYes, dLc, dIsi, dIsNT, dIsN, nonOf, dAug, dUnp, dKwP, pick, dNewD, dUpd, onPairs, dSortD, onIntsA, onOlAt, dAppT, dCallS, dLenS, dIxS, dLc2, lcTurn, List.getD_cons_zero, List.getD_cons_succ, Nat.zero_le, zl1, zl2, zl3, zl4, zl5, zl6, zl7, zl8, zl9, zl10, zl11, ls1, ls2, ls3, ls4, eq_self, Nat.reduceAdd, Nat.reduceEqDiff, itemsOf_list, itemsOf_tuple, Dl.get, Dl.put, List.length_cons, List.length_nil, List.map_cons, List.map_nil, id, true_and, and_true, true_implies, forall_const, Bool.not_true, Bool.not_false, reduceCtorEq, false_implies, Nat.zero_add, ite_true, ite_false, Bool.true_eq_false, Bool.false_eq_true])
local macro_rules | `(tactic| walk_at "w") => `(tactic| conv => whnf)
local macro_rules | `(tactic| walk_at "cb") => `(tactic| ((conv => whnf); refine ⟨rfl, rfl, Nat.zero_lt_succ _, ?_⟩; (conv => whnf)))
local macro_rules | `(tactic| walk_at "cp") => `(tactic| ((conv => whnf); refine ⟨rfl, ?_⟩; (conv => whnf)))
local macro_rules | `(tactic| walk_at "a") => `(tactic| ((conv => whnf); repeat (first | (refine ⟨leS rfl, ?_⟩; (conv => whnf)) | (refine ⟨trivial, ?_⟩; (conv => whnf)) | (refine ⟨rfl, ?_⟩; (conv => whnf)) | (refine ⟨Nat.zero_lt_succ _, ?_⟩; (conv => whnf)) | (refine ⟨(show (2 : Nat) < _ from ltN rfl), ?_⟩; (conv => whnf)) | (refine ⟨(show Dl.inR _ from (by unfold Dl.inR; omega)), ?_⟩; (conv => whnf)) | (refine ⟨fun _ => ?_, fun z => Bool.noConfusion (show true = false from z)⟩; (conv => whnf)) | (refine ⟨fun z => Bool.noConfusion (show false = true from z), fun _ => ?_⟩; (conv => whnf))); try (first | refine norm_ex (by dsimp only [Dl.put, Dl.wipeG, Dl.putN, puts]) ?_ | refine norm_lc (by dsimp only [Dl.put, Dl.wipeG, Dl.putN, puts]) ?_)))
local macro_rules | `(tactic| walk_at "b") => `(tactic| ((try dsimp only [puts, Dl.put, Dl.putN, Dl.wipeG]); walk_at "a"))
local macro_rules | `(tactic| walk_at "d") => `(tactic| ((walk_at "b"); dsimp only))
section
variable {P : Program} {w : World} {K : PySem.W.Frag} {mg : Str → Option Value} {base : Heap}
theorem st_law (a0 : O) : startG ["_law_script", "_law_k"] [a0] = [some a0, none] := rfl
theorem ok_law {f : Addr} {fd : FuncData} (D : Fun K "law" "law" s_law f fd) (B : Blt mg) (c_right : Can P w K mg base 10 "_law_right" ["_law_box_here"] (spB K 0 phRight)) (c_box : Can P w K mg base 2 "_law_box" ["_law_script", "_law_k"] (spS K 1 phBox)) : FnOk P w K mg base CX0 (11) f fd ["_law_script"] (spS K 0 phLaw) := by
  refine fnS D sc_law rfl fun cdv A outer s H E hr => ⟨_, (ds_single (ds_ret (de_b fit_all (cr_all rfl) rfl B.all (by decide +kernel) (da_cons (de_lc sc_law.nd (di_range1 rfl B.range (da_cons (de_add de_int (de_b fit_min2 (call_min2 rfl) rfl B.min (by decide +kernel) (da_cons de_int (da_cons (de_b fit_lenS call_len_seq rfl B.len (by decide +kernel) (da_cons (dv 0) da_nil)) da_nil)))) da_nil)) (blkOk_by (own := [("_law_k", 1)]) (by rfl)) (fun _ _ _ _ _ => (dg_name 1 sc_law.nd)) (fun _ _ _ _ _ => dts_nil) (fun _ _ _ _ _ => (de_canBN c_right hr (da_cons (de_canSK c_box hr (da_cons (dv 0) (da_cons (dv 1) da_nil))) da_nil)))) da_nil)))), fun ns ds Kt hl h => ?_⟩
  obtain ⟨rfl, h63, hk⟩ := h
  simp only [List.map_cons, List.map_nil]
  rw [st_law]
  walk_at "a"
  refine ⟨0, ns, rfl, rfl, ?_⟩
  walk_at "w"
  refine ⟨by unfold Dl.inR; split <;> omega, ?_⟩
  refine norm_lc (by dsimp only [Dl.put, Dl.wipeG, Dl.putN, puts]) ?_
  refine lc_at (fun n => List.replicate n (PyData.bool true)) rfl ⟨?_, ?_⟩
  · rintro i acc Γ hi ⟨rfl, rfl⟩
    have hi2 : i < 4 := by first | exact Nat.lt_of_lt_of_le hi (by decide) | (split at hi <;> omega)
    walk_at "a"
    refine ⟨0, _, ns, rfl, rfl, ?_⟩
    walk_at "a"
    refine ⟨_, rfl, by omega, by omega, fun a b a0 b0 b1 => ?_⟩
    walk_at "a"
    refine ⟨⟨a, b, 0, rfl, a0, b0, b1, by decide, by decide⟩, ?_⟩
    walk_at "a"
    refine fun m' hm' => ?_
    walk_at "a"
    exact ⟨lt_size (by rw [List.length_replicate]; omega), rep_snoc _ _, rfl⟩
  · rintro acc Γ ⟨rfl, rfl⟩
    walk_at "a"
    refine ⟨List.replicate _ true, by rw [List.map_replicate], ?_⟩
    walk_at "w"
    rw [all_rep]
    exact hk
end
end Kx
end
set_option maxHeartbeats 4000000
namespace Kx
open PySem PySem.Spec PyProof.Rows L2 Dl
abbrev loose : List Str := "NoTrain" :: "NoPlace" :: "NoNumber" :: "Inside" :: "capacity" :: "order" :: "spans" :: "mixing_spans" :: "joints" :: "blocks" :: "blocks_at" :: "groups" :: "block_of" :: "places_of" :: "may_meet" :: "ever_ahead" :: "_law_cell_at" :: "_law_box" :: "_law_take" :: "_law_of" :: "_law_same" :: "_law_lists" :: "_law_strewn" :: "_law_rail" :: "_law_total" :: "_law_ids" :: "_law_numbers" :: "_law_parked" :: "_law_count" :: "_law_scene" :: "_law_carts" :: "_law_spot" :: "_law_can" :: "_law_gone" :: "_law_hops" :: "_law_reached" :: "_law_ahead" :: "_law_together" :: "_law_missing" :: "_law_right" :: []
def d_capacity : He.DefD := ⟨("capacity", none), "capacity", "capacity", defArgs s_capacity, defBody s_capacity, defScope s_capacity, [], []⟩
def d_order : He.DefD := ⟨("order", none), "order", "order", defArgs s_order, defBody s_order, defScope s_order, [], []⟩
def d_spans : He.DefD := ⟨("spans", none), "spans", "spans", defArgs s_spans, defBody s_spans, defScope s_spans, [], []⟩
def d_mixing_spans : He.DefD := ⟨("mixing_spans", none), "mixing_spans", "mixing_spans", defArgs s_mixing_spans, defBody s_mixing_spans, defScope s_mixing_spans, [], []⟩
def d_joints : He.DefD := ⟨("joints", none), "joints", "joints", defArgs s_joints, defBody s_joints, defScope s_joints, [], []⟩
def d_blocks : He.DefD := ⟨("blocks", none), "blocks", "blocks", defArgs s_blocks, defBody s_blocks, defScope s_blocks, [], []⟩
def d_blocks_at : He.DefD := ⟨("blocks_at", none), "blocks_at", "blocks_at", defArgs s_blocks_at, defBody s_blocks_at, defScope s_blocks_at, [], []⟩
def d_groups : He.DefD := ⟨("groups", none), "groups", "groups", defArgs s_groups, defBody s_groups, defScope s_groups, [], []⟩
def d_block_of : He.DefD := ⟨("block_of", none), "block_of", "block_of", defArgs s_block_of, defBody s_block_of, defScope s_block_of, [], []⟩
def d_places_of : He.DefD := ⟨("places_of", none), "places_of", "places_of", defArgs s_places_of, defBody s_places_of, defScope s_places_of, [], []⟩
def d_may_meet : He.DefD := ⟨("may_meet", none), "may_meet", "may_meet", defArgs s_may_meet, defBody s_may_meet, defScope s_may_meet, [], []⟩
def d_ever_ahead : He.DefD := ⟨("ever_ahead", none), "ever_ahead", "ever_ahead", defArgs s_ever_ahead, defBody s_ever_ahead, defScope s_ever_ahead, [], []⟩
def d_cell_at : He.DefD := ⟨("_law_cell_at", none), "_law_cell_at", "_law_cell_at", defArgs s_cell_at, defBody s_cell_at, defScope s_cell_at, [], []⟩
def d_box : He.DefD := ⟨("_law_box", none), "_law_box", "_law_box", defArgs s_box, defBody s_box, defScope s_box, [], []⟩
def d_take : He.DefD := ⟨("_law_take", none), "_law_take", "_law_take", defArgs s_take, defBody s_take, defScope s_take, [], []⟩
def d_of : He.DefD := ⟨("_law_of", none), "_law_of", "_law_of", defArgs s_of, defBody s_of, defScope s_of, [], []⟩
def d_same : He.DefD := ⟨("_law_same", none), "_law_same", "_law_same", defArgs s_same, defBody s_same, defScope s_same, [], []⟩
def d_lists : He.DefD := ⟨("_law_lists", none), "_law_lists", "_law_lists", defArgs s_lists, defBody s_lists, defScope s_lists, [], []⟩
def d_strewn : He.DefD := ⟨("_law_strewn", none), "_law_strewn", "_law_strewn", defArgs s_strewn, defBody s_strewn, defScope s_strewn, [], []⟩
def d_rail : He.DefD := ⟨("_law_rail", none), "_law_rail", "_law_rail", defArgs s_rail, defBody s_rail, defScope s_rail, [], []⟩
def d_total : He.DefD := ⟨("_law_total", none), "_law_total", "_law_total", defArgs s_total, defBody s_total, defScope s_total, [], []⟩
def d_ids : He.DefD := ⟨("_law_ids", none), "_law_ids", "_law_ids", defArgs s_ids, defBody s_ids, defScope s_ids, [], []⟩
def d_numbers : He.DefD := ⟨("_law_numbers", none), "_law_numbers", "_law_numbers", defArgs s_numbers, defBody s_numbers, defScope s_numbers, [], []⟩
def d_parked : He.DefD := ⟨("_law_parked", none), "_law_parked", "_law_parked", defArgs s_parked, defBody s_parked, defScope s_parked, [], []⟩
def d_count : He.DefD := ⟨("_law_count", none), "_law_count", "_law_count", defArgs s_count, defBody s_count, defScope s_count, [], []⟩
def d_scene : He.DefD := ⟨("_law_scene", none), "_law_scene", "_law_scene", defArgs s_scene, defBody s_scene, defScope s_scene, [], []⟩
def d_carts : He.DefD := ⟨("_law_carts", none), "_law_carts", "_law_carts", defArgs s_carts, defBody s_carts, defScope s_carts, [], []⟩
def d_spot : He.DefD := ⟨("_law_spot", none), "_law_spot", "_law_spot", defArgs s_spot, defBody s_spot, defScope s_spot, [], []⟩
def d_can : He.DefD := ⟨("_law_can", none), "_law_can", "_law_can", defArgs s_can, defBody s_can, defScope s_can, [], []⟩
def d_gone : He.DefD := ⟨("_law_gone", none), "_law_gone", "_law_gone", defArgs s_gone, defBody s_gone, defScope s_gone, [], []⟩
def d_hops : He.DefD := ⟨("_law_hops", none), "_law_hops", "_law_hops", defArgs s_hops, defBody s_hops, defScope s_hops, [], []⟩
def d_reached : He.DefD := ⟨("_law_reached", none), "_law_reached", "_law_reached", defArgs s_reached, defBody s_reached, defScope s_reached, [], []⟩
def d_ahead : He.DefD := ⟨("_law_ahead", none), "_law_ahead", "_law_ahead", defArgs s_ahead, defBody s_ahead, defScope s_ahead, [], []⟩
def d_together : He.DefD := ⟨("_law_together", none), "_law_together", "_law_together", defArgs s_together, defBody s_together, defScope s_together, [], []⟩
def d_missing : He.DefD := ⟨("_law_missing", none), "_law_missing", "_law_missing", defArgs s_missing, defBody s_missing, defScope s_missing, [], []⟩
def d_right : He.DefD := ⟨("_law_right", none), "_law_right", "_law_right", defArgs s_right, defBody s_right, defScope s_right, [], []⟩
def d_law : He.DefD := ⟨("law", none), "law", "law", defArgs s_law, defBody s_law, defScope s_law, [], []⟩
def d_iNoTrain : He.DefD := ⟨("NoTrain", some "__init__"), "__init__", "NoTrain.__init__", defArgs s_iNoTrain, defBody s_iNoTrain, defScope s_iNoTrain, [], []⟩
def fn : List He.DefD := [d_capacity, d_order, d_spans, d_mixing_spans, d_joints, d_blocks, d_blocks_at, d_groups, d_block_of, d_places_of, d_may_meet, d_ever_ahead, d_cell_at, d_box, d_take, d_of, d_same, d_lists, d_strewn, d_rail, d_total, d_ids, d_numbers, d_parked, d_count, d_scene, d_carts, d_spot, d_can, d_gone, d_hops, d_reached, d_ahead, d_together, d_missing, d_right, d_law, d_iNoTrain]
def fa : List He.Fa := [.glo "capacity", .glo "order", .glo "spans", .glo "mixing_spans", .glo "joints", .glo "blocks", .glo "blocks_at", .glo "groups", .glo "block_of", .glo "places_of", .glo "may_meet", .glo "ever_ahead", .glo "_law_cell_at", .glo "_law_box", .glo "_law_take", .glo "_law_of", .glo "_law_same", .glo "_law_lists", .glo "_law_strewn", .glo "_law_rail", .glo "_law_total", .glo "_law_ids", .glo "_law_numbers", .glo "_law_parked", .glo "_law_count", .glo "_law_scene", .glo "_law_carts", .glo "_law_spot", .glo "_law_can", .glo "_law_gone", .glo "_law_hops", .glo "_law_reached", .glo "_law_ahead", .glo "_law_together", .glo "_law_missing", .glo "_law_right", .glo "law", .glo "NoTrain", .glo "Inside", .glo "NoNumber", .glo "NoPlace", .free "len", .free "abs", .free "sum", .free "sorted", .free "all", .free "any", .free "list", .free "tuple", .free "int", .free "min", .free "max", .free "range", .free "zip", .free "enumerate", .free "isinstance", .free "bool", .free "str", .free "repr", .free "set", .free "LookupError", .free "RuntimeError", .free "ValueError", .free "OverflowError", .free "reversed"]
def xsB (K : PySem.W.Frag) : Bool := ownB K "NoTrain" "LookupError.__new__" (bmOf "LookupError") "train" && (binB K "LookupError" "LookupError.__init__" && (kitB K (.ref (He.ga K "NoTrain")) (.ref (He.ga K "NoTrain")) true && (kitB K (.ref (He.ga K "NoTrain")) (.type "LookupError") true && (exmB K (.ref (He.ga K "NoTrain")) [(.ref (He.ga K "Inside")), (.ref (He.ga K "NoNumber")), (.ref (He.ga K "NoPlace")), (.ref (He.ga K "NoTrain"))] true && (decide (PySem.W.kitAny K (.ref (He.ga K "NoTrain")) [(.ref (He.ga K "Inside")), (.ref (He.ga K "NoNumber")), (.ref (He.ga K "NoPlace"))] = some false) && ((tabL K).isEmpty))))))
abbrev Rw : PySem.W.OpenRow := PySem.W.OpenLaw.row PySem.Challenge.rw_passyards_k25_where_trains_can_go
abbrev hk : PySem.W.Hook := hookX 5 fa fn xsB
def ob (s : PySem.W.SharedT) : AlX := obsX 5 fa fn xsB (HandSHeadRun.getT s)
theorem ob_eq (s : PySem.W.SharedT) : ob s = hk.obs s.abs := obsX_eq (HandSHeadRun.getT_eq s)
theorem run (w : World) : HandSHeadRun.RunEq Rw (PySem.W.view Rw.prog [45]) hk ob 3000 Kx.loose w := by
  intro os
  kernel_rfl
theorem no_tabs {K : PySem.W.Frag} (cx : xsB K = true) : tabL K = [] := by
  unfold xsB at cx
  obtain ⟨x_0, cx⟩ := bothB cx
  obtain ⟨x_1, cx⟩ := bothB cx
  obtain ⟨x_2, cx⟩ := bothB cx
  obtain ⟨x_3, cx⟩ := bothB cx
  obtain ⟨x_4, cx⟩ := bothB cx
  obtain ⟨x_5, cx⟩ := bothB cx
  have x_6 := cx
  exact List.isEmpty_iff.mp x_6
theorem facts {P : Program} {w : World} {K : PySem.W.Frag} {h : Heap} {mg : Str → Option Value} {f : Addr} (X : K.In h) (G : h.Ns mainGlobals mg) (hfa : mg ("law" : Str) = some (.ref f)) (c : He.SaysD fa fn K) (cx : xsB K = true) :
    ∃ fd : FuncData, (∀ (s : Shared) (v : Value), BindsTo s fd ⟨[v], []⟩ [("_law_script", v)]) ∧ ∀ base : Heap, K.In base → base.Ns mainGlobals mg → FnOk P w K mg base CX0 11 f fd ["_law_script"] (spS K 0 phLaw) := by
  have D_capacity : At K mg "capacity" s_capacity ["line"] := by
    obtain ⟨fd, F⟩ := c.def_ 0 (d := d_capacity) rfl
    have F1 : Fun K "capacity" "capacity" s_capacity _ fd := toFun F
    exact ⟨_, fd, F1, He.glo_ok X G (c.fact 0 (f := .glo "capacity") rfl), F1.binds fun _ _ _ _ _ _ us hl => match us, hl with | [_], _ => rfl⟩
  have D_order : At K mg "order" s_order ["line", "standing"] := by
    obtain ⟨fd, F⟩ := c.def_ 1 (d := d_order) rfl
    have F1 : Fun K "order" "order" s_order _ fd := toFun F
    exact ⟨_, fd, F1, He.glo_ok X G (c.fact 1 (f := .glo "order") rfl), F1.binds fun _ _ _ _ _ _ us hl => match us, hl with | [_, _], _ => rfl⟩
  have D_spans : At K mg "spans" s_spans ["line", "many"] := by
    obtain ⟨fd, F⟩ := c.def_ 2 (d := d_spans) rfl
    have F1 : Fun K "spans" "spans" s_spans _ fd := toFun F
    exact ⟨_, fd, F1, He.glo_ok X G (c.fact 2 (f := .glo "spans") rfl), F1.binds fun _ _ _ _ _ _ us hl => match us, hl with | [_, _], _ => rfl⟩
  have D_mixing_spans : At K mg "mixing_spans" s_mixing_spans ["line", "many"] := by
    obtain ⟨fd, F⟩ := c.def_ 3 (d := d_mixing_spans) rfl
    have F1 : Fun K "mixing_spans" "mixing_spans" s_mixing_spans _ fd := toFun F
    exact ⟨_, fd, F1, He.glo_ok X G (c.fact 3 (f := .glo "mixing_spans") rfl), F1.binds fun _ _ _ _ _ _ us hl => match us, hl with | [_, _], _ => rfl⟩
  have D_joints : At K mg "joints" s_joints ["line", "many"] := by
    obtain ⟨fd, F⟩ := c.def_ 4 (d := d_joints) rfl
    have F1 : Fun K "joints" "joints" s_joints _ fd := toFun F
    exact ⟨_, fd, F1, He.glo_ok X G (c.fact 4 (f := .glo "joints") rfl), F1.binds fun _ _ _ _ _ _ us hl => match us, hl with | [_, _], _ => rfl⟩
  have D_blocks : At K mg "blocks" s_blocks ["line", "many"] := by
    obtain ⟨fd, F⟩ := c.def_ 5 (d := d_blocks) rfl
    have F1 : Fun K "blocks" "blocks" s_blocks _ fd := toFun F
    exact ⟨_, fd, F1, He.glo_ok X G (c.fact 5 (f := .glo "blocks") rfl), F1.binds fun _ _ _ _ _ _ us hl => match us, hl with | [_, _], _ => rfl⟩
  have D_blocks_at : At K mg "blocks_at" s_blocks_at ["line", "many"] := by
    obtain ⟨fd, F⟩ := c.def_ 6 (d := d_blocks_at) rfl
    have F1 : Fun K "blocks_at" "blocks_at" s_blocks_at _ fd := toFun F
    exact ⟨_, fd, F1, He.glo_ok X G (c.fact 6 (f := .glo "blocks_at") rfl), F1.binds fun _ _ _ _ _ _ us hl => match us, hl with | [_, _], _ => rfl⟩
  have D_groups : At K mg "groups" s_groups ["line", "standing"] := by
    obtain ⟨fd, F⟩ := c.def_ 7 (d := d_groups) rfl
    have F1 : Fun K "groups" "groups" s_groups _ fd := toFun F
    exact ⟨_, fd, F1, He.glo_ok X G (c.fact 7 (f := .glo "groups") rfl), F1.binds fun _ _ _ _ _ _ us hl => match us, hl with | [_, _], _ => rfl⟩
  have D_block_of : At K mg "block_of" s_block_of ["line", "standing", "train"] := by
    obtain ⟨fd, F⟩ := c.def_ 8 (d := d_block_of) rfl
    have F1 : Fun K "block_of" "block_of" s_block_of _ fd := toFun F
    exact ⟨_, fd, F1, He.glo_ok X G (c.fact 8 (f := .glo "block_of") rfl), F1.binds fun _ _ _ _ _ _ us hl => match us, hl with | [_, _, _], _ => rfl⟩
  have D_places_of : At K mg "places_of" s_places_of ["line", "standing", "train"] := by
    obtain ⟨fd, F⟩ := c.def_ 9 (d := d_places_of) rfl
    have F1 : Fun K "places_of" "places_of" s_places_of _ fd := toFun F
    exact ⟨_, fd, F1, He.glo_ok X G (c.fact 9 (f := .glo "places_of") rfl), F1.binds fun _ _ _ _ _ _ us hl => match us, hl with | [_, _, _], _ => rfl⟩
  have D_may_meet : At K mg "may_meet" s_may_meet ["line", "standing", "one", "other"] := by
    obtain ⟨fd, F⟩ := c.def_ 10 (d := d_may_meet) rfl
    have F1 : Fun K "may_meet" "may_meet" s_may_meet _ fd := toFun F
    exact ⟨_, fd, F1, He.glo_ok X G (c.fact 10 (f := .glo "may_meet") rfl), F1.binds fun _ _ _ _ _ _ us hl => match us, hl with | [_, _, _, _], _ => rfl⟩
  have D_ever_ahead : At K mg "ever_ahead" s_ever_ahead ["line", "standing", "one", "other"] := by
    obtain ⟨fd, F⟩ := c.def_ 11 (d := d_ever_ahead) rfl
    have F1 : Fun K "ever_ahead" "ever_ahead" s_ever_ahead _ fd := toFun F
    exact ⟨_, fd, F1, He.glo_ok X G (c.fact 11 (f := .glo "ever_ahead") rfl), F1.binds fun _ _ _ _ _ _ us hl => match us, hl with | [_, _, _, _], _ => rfl⟩
  have D_cell_at : At K mg "_law_cell_at" s_cell_at ["_law_script", "_law_k"] := by
    obtain ⟨fd, F⟩ := c.def_ 12 (d := d_cell_at) rfl
    have F1 : Fun K "_law_cell_at" "_law_cell_at" s_cell_at _ fd := toFun F
    exact ⟨_, fd, F1, He.glo_ok X G (c.fact 12 (f := .glo "_law_cell_at") rfl), F1.binds fun _ _ _ _ _ _ us hl => match us, hl with | [_, _], _ => rfl⟩
  have D_box : At K mg "_law_box" s_box ["_law_script", "_law_k"] := by
    obtain ⟨fd, F⟩ := c.def_ 13 (d := d_box) rfl
    have F1 : Fun K "_law_box" "_law_box" s_box _ fd := toFun F
    exact ⟨_, fd, F1, He.glo_ok X G (c.fact 13 (f := .glo "_law_box") rfl), F1.binds fun _ _ _ _ _ _ us hl => match us, hl with | [_, _], _ => rfl⟩
  have D_take : At K mg "_law_take" s_take ["_law_box_here", "_law_span"] := by
    obtain ⟨fd, F⟩ := c.def_ 14 (d := d_take) rfl
    have F1 : Fun K "_law_take" "_law_take" s_take _ fd := toFun F
    exact ⟨_, fd, F1, He.glo_ok X G (c.fact 14 (f := .glo "_law_take") rfl), F1.binds fun _ _ _ _ _ _ us hl => match us, hl with | [_, _], _ => rfl⟩
  have D_of : At K mg "_law_of" s_of ["_law_box_here", "_law_some"] := by
    obtain ⟨fd, F⟩ := c.def_ 15 (d := d_of) rfl
    have F1 : Fun K "_law_of" "_law_of" s_of _ fd := toFun F
    exact ⟨_, fd, F1, He.glo_ok X G (c.fact 15 (f := .glo "_law_of") rfl), F1.binds fun _ _ _ _ _ _ us hl => match us, hl with | [_, _], _ => rfl⟩
  have D_same : At K mg "_law_same" s_same ["_law_found", "_law_due"] := by
    obtain ⟨fd, F⟩ := c.def_ 16 (d := d_same) rfl
    have F1 : Fun K "_law_same" "_law_same" s_same _ fd := toFun F
    exact ⟨_, fd, F1, He.glo_ok X G (c.fact 16 (f := .glo "_law_same") rfl), F1.binds fun _ _ _ _ _ _ us hl => match us, hl with | [_, _], _ => rfl⟩
  have D_lists : At K mg "_law_lists" s_lists ["_law_part"] := by
    obtain ⟨fd, F⟩ := c.def_ 17 (d := d_lists) rfl
    have F1 : Fun K "_law_lists" "_law_lists" s_lists _ fd := toFun F
    exact ⟨_, fd, F1, He.glo_ok X G (c.fact 17 (f := .glo "_law_lists") rfl), F1.binds fun _ _ _ _ _ _ us hl => match us, hl with | [_], _ => rfl⟩
  have D_strewn : At K mg "_law_strewn" s_strewn ["_law_box_here", "_law_some"] := by
    obtain ⟨fd, F⟩ := c.def_ 18 (d := d_strewn) rfl
    have F1 : Fun K "_law_strewn" "_law_strewn" s_strewn _ fd := toFun F
    exact ⟨_, fd, F1, He.glo_ok X G (c.fact 18 (f := .glo "_law_strewn") rfl), F1.binds fun _ _ _ _ _ _ us hl => match us, hl with | [_, _], _ => rfl⟩
  have D_rail : At K mg "_law_rail" s_rail ["_law_box_here", "_law_most", "_law_top"] := by
    obtain ⟨fd, F⟩ := c.def_ 19 (d := d_rail) rfl
    have F1 : Fun K "_law_rail" "_law_rail" s_rail _ fd := toFun F
    exact ⟨_, fd, F1, He.glo_ok X G (c.fact 19 (f := .glo "_law_rail") rfl), F1.binds fun _ _ _ _ _ _ us hl => match us, hl with | [_, _, _], _ => rfl⟩
  have D_total : At K mg "_law_total" s_total ["_law_rail_here"] := by
    obtain ⟨fd, F⟩ := c.def_ 20 (d := d_total) rfl
    have F1 : Fun K "_law_total" "_law_total" s_total _ fd := toFun F
    exact ⟨_, fd, F1, He.glo_ok X G (c.fact 20 (f := .glo "_law_total") rfl), F1.binds fun _ _ _ _ _ _ us hl => match us, hl with | [_], _ => rfl⟩
  have D_ids : At K mg "_law_ids" s_ids ["_law_box_here", "_law_count_here"] := by
    obtain ⟨fd, F⟩ := c.def_ 21 (d := d_ids) rfl
    have F1 : Fun K "_law_ids" "_law_ids" s_ids _ fd := toFun F
    exact ⟨_, fd, F1, He.glo_ok X G (c.fact 21 (f := .glo "_law_ids") rfl), F1.binds fun _ _ _ _ _ _ us hl => match us, hl with | [_, _], _ => rfl⟩
  have D_numbers : At K mg "_law_numbers" s_numbers ["_law_box_here", "_law_rail_here", "_law_count_here"] := by
    obtain ⟨fd, F⟩ := c.def_ 22 (d := d_numbers) rfl
    have F1 : Fun K "_law_numbers" "_law_numbers" s_numbers _ fd := toFun F
    exact ⟨_, fd, F1, He.glo_ok X G (c.fact 22 (f := .glo "_law_numbers") rfl), F1.binds fun _ _ _ _ _ _ us hl => match us, hl with | [_, _, _], _ => rfl⟩
  have D_parked : At K mg "_law_parked" s_parked ["_law_rail_here", "_law_row_up", "_law_numbers_here"] := by
    obtain ⟨fd, F⟩ := c.def_ 23 (d := d_parked) rfl
    have F1 : Fun K "_law_parked" "_law_parked" s_parked _ fd := toFun F
    exact ⟨_, fd, F1, He.glo_ok X G (c.fact 23 (f := .glo "_law_parked") rfl), F1.binds fun _ _ _ _ _ _ us hl => match us, hl with | [_, _, _], _ => rfl⟩
  have D_count : At K mg "_law_count" s_count ["_law_box_here", "_law_rail_here", "_law_most"] := by
    obtain ⟨fd, F⟩ := c.def_ 24 (d := d_count) rfl
    have F1 : Fun K "_law_count" "_law_count" s_count _ fd := toFun F
    exact ⟨_, fd, F1, He.glo_ok X G (c.fact 24 (f := .glo "_law_count") rfl), F1.binds fun _ _ _ _ _ _ us hl => match us, hl with | [_, _, _], _ => rfl⟩
  have D_scene : At K mg "_law_scene" s_scene ["_law_box_here", "_law_most", "_law_top", "_law_carts_here"] := by
    obtain ⟨fd, F⟩ := c.def_ 25 (d := d_scene) rfl
    have F1 : Fun K "_law_scene" "_law_scene" s_scene _ fd := toFun F
    exact ⟨_, fd, F1, He.glo_ok X G (c.fact 25 (f := .glo "_law_scene") rfl), F1.binds fun _ _ _ _ _ _ us hl => match us, hl with | [_, _, _, _], _ => rfl⟩
  have D_carts : At K mg "_law_carts" s_carts ["_law_park"] := by
    obtain ⟨fd, F⟩ := c.def_ 26 (d := d_carts) rfl
    have F1 : Fun K "_law_carts" "_law_carts" s_carts _ fd := toFun F
    exact ⟨_, fd, F1, He.glo_ok X G (c.fact 26 (f := .glo "_law_carts") rfl), F1.binds fun _ _ _ _ _ _ us hl => match us, hl with | [_], _ => rfl⟩
  have D_spot : At K mg "_law_spot" s_spot ["_law_park", "_law_cart"] := by
    obtain ⟨fd, F⟩ := c.def_ 27 (d := d_spot) rfl
    have F1 : Fun K "_law_spot" "_law_spot" s_spot _ fd := toFun F
    exact ⟨_, fd, F1, He.glo_ok X G (c.fact 27 (f := .glo "_law_spot") rfl), F1.binds fun _ _ _ _ _ _ us hl => match us, hl with | [_, _], _ => rfl⟩
  have D_can : At K mg "_law_can" s_can ["_law_rail_here", "_law_park", "_law_cart", "_law_way"] := by
    obtain ⟨fd, F⟩ := c.def_ 28 (d := d_can) rfl
    have F1 : Fun K "_law_can" "_law_can" s_can _ fd := toFun F
    exact ⟨_, fd, F1, He.glo_ok X G (c.fact 28 (f := .glo "_law_can") rfl), F1.binds fun _ _ _ _ _ _ us hl => match us, hl with | [_, _, _, _], _ => rfl⟩
  have D_gone : At K mg "_law_gone" s_gone ["_law_rail_here", "_law_park", "_law_cart", "_law_way"] := by
    obtain ⟨fd, F⟩ := c.def_ 29 (d := d_gone) rfl
    have F1 : Fun K "_law_gone" "_law_gone" s_gone _ fd := toFun F
    exact ⟨_, fd, F1, He.glo_ok X G (c.fact 29 (f := .glo "_law_gone") rfl), F1.binds fun _ _ _ _ _ _ us hl => match us, hl with | [_, _, _, _], _ => rfl⟩
  have D_hops : At K mg "_law_hops" s_hops ["_law_rail_here", "_law_park"] := by
    obtain ⟨fd, F⟩ := c.def_ 30 (d := d_hops) rfl
    have F1 : Fun K "_law_hops" "_law_hops" s_hops _ fd := toFun F
    exact ⟨_, fd, F1, He.glo_ok X G (c.fact 30 (f := .glo "_law_hops") rfl), F1.binds fun _ _ _ _ _ _ us hl => match us, hl with | [_, _], _ => rfl⟩
  have D_reached : At K mg "_law_reached" s_reached ["_law_rail_here", "_law_park", "_law_most"] := by
    obtain ⟨fd, F⟩ := c.def_ 31 (d := d_reached) rfl
    have F1 : Fun K "_law_reached" "_law_reached" s_reached _ fd := toFun F
    exact ⟨_, fd, F1, He.glo_ok X G (c.fact 31 (f := .glo "_law_reached") rfl), F1.binds fun _ _ _ _ _ _ us hl => match us, hl with | [_, _, _], _ => rfl⟩
  have D_ahead : At K mg "_law_ahead" s_ahead ["_law_rail_here", "_law_park", "_law_first", "_law_second"] := by
    obtain ⟨fd, F⟩ := c.def_ 32 (d := d_ahead) rfl
    have F1 : Fun K "_law_ahead" "_law_ahead" s_ahead _ fd := toFun F
    exact ⟨_, fd, F1, He.glo_ok X G (c.fact 32 (f := .glo "_law_ahead") rfl), F1.binds fun _ _ _ _ _ _ us hl => match us, hl with | [_, _, _, _], _ => rfl⟩
  have D_together : At K mg "_law_together" s_together ["_law_rail_here", "_law_park", "_law_first", "_law_second"] := by
    obtain ⟨fd, F⟩ := c.def_ 33 (d := d_together) rfl
    have F1 : Fun K "_law_together" "_law_together" s_together _ fd := toFun F
    exact ⟨_, fd, F1, He.glo_ok X G (c.fact 33 (f := .glo "_law_together") rfl), F1.binds fun _ _ _ _ _ _ us hl => match us, hl with | [_, _, _, _], _ => rfl⟩
  have D_missing : At K mg "_law_missing" s_missing ["_law_kind", "_law_rail_here", "_law_park", "_law_first", "_law_second"] := by
    obtain ⟨fd, F⟩ := c.def_ 34 (d := d_missing) rfl
    have F1 : Fun K "_law_missing" "_law_missing" s_missing _ fd := toFun F
    exact ⟨_, fd, F1, He.glo_ok X G (c.fact 34 (f := .glo "_law_missing") rfl), F1.binds fun _ _ _ _ _ _ us hl => match us, hl with | [_, _, _, _, _], _ => rfl⟩
  have D_right : At K mg "_law_right" s_right ["_law_box_here"] := by
    obtain ⟨fd, F⟩ := c.def_ 35 (d := d_right) rfl
    have F1 : Fun K "_law_right" "_law_right" s_right _ fd := toFun F
    exact ⟨_, fd, F1, He.glo_ok X G (c.fact 35 (f := .glo "_law_right") rfl), F1.binds fun _ _ _ _ _ _ us hl => match us, hl with | [_], _ => rfl⟩
  obtain ⟨fd, F⟩ := c.def_ 36 (d := d_law) rfl
  have e := hfa.symm.trans (He.glo_ok X G (c.fact 36 (f := .glo "law") rfl))
  cases e
  have bl := FunD.bindsA (ps := ["_law_script"]) F fun _ _ _ _ _ _ us hl => match us, hl with | [_], _ => rfl
  have D_law : Fun K "law" "law" s_law _ fd := toFun F
  obtain ⟨fd_NoTrain, G_NoTrain⟩ := c.def_ 37 (d := d_iNoTrain) rfl
  have D_iNoTrain : Fun K "__init__" "NoTrain.__init__" s_iNoTrain (iAt K "NoTrain") fd_NoTrain := toFun G_NoTrain
  have b_NoTrain := D_iNoTrain.binds (ps := ["self", "train"]) fun _ _ _ _ _ _ us hl => match us, hl with | [_, _], _ => rfl
  have m_NoTrain := He.glo_ok X G (c.fact 37 (f := .glo "NoTrain") rfl)
  have m_Inside := He.glo_ok X G (c.fact 38 (f := .glo "Inside") rfl)
  have m_NoNumber := He.glo_ok X G (c.fact 39 (f := .glo "NoNumber") rfl)
  have m_NoPlace := He.glo_ok X G (c.fact 40 (f := .glo "NoPlace") rfl)
  have B : Blt mg := ⟨He.free_ok X G (c.fact 41 (f := .free "len") rfl), He.free_ok X G (c.fact 42 (f := .free "abs") rfl), He.free_ok X G (c.fact 43 (f := .free "sum") rfl), He.free_ok X G (c.fact 44 (f := .free "sorted") rfl), He.free_ok X G (c.fact 45 (f := .free "all") rfl), He.free_ok X G (c.fact 46 (f := .free "any") rfl), He.free_ok X G (c.fact 47 (f := .free "list") rfl), He.free_ok X G (c.fact 48 (f := .free "tuple") rfl), He.free_ok X G (c.fact 49 (f := .free "int") rfl), He.free_ok X G (c.fact 50 (f := .free "min") rfl), He.free_ok X G (c.fact 51 (f := .free "max") rfl), He.free_ok X G (c.fact 52 (f := .free "range") rfl), He.free_ok X G (c.fact 53 (f := .free "zip") rfl), He.free_ok X G (c.fact 54 (f := .free "enumerate") rfl), He.free_ok X G (c.fact 55 (f := .free "isinstance") rfl), He.free_ok X G (c.fact 56 (f := .free "bool") rfl), He.free_ok X G (c.fact 57 (f := .free "str") rfl), He.free_ok X G (c.fact 58 (f := .free "repr") rfl), He.free_ok X G (c.fact 59 (f := .free "set") rfl), He.free_ok X G (c.fact 60 (f := .free "LookupError") rfl), He.free_ok X G (c.fact 61 (f := .free "RuntimeError") rfl), He.free_ok X G (c.fact 62 (f := .free "ValueError") rfl), He.free_ok X G (c.fact 63 (f := .free "OverflowError") rfl), He.free_ok X G (c.fact 64 (f := .free "reversed") rfl)⟩
  unfold xsB at cx
  obtain ⟨x_0, cx⟩ := bothB cx
  obtain ⟨x_1, cx⟩ := bothB cx
  obtain ⟨x_2, cx⟩ := bothB cx
  obtain ⟨x_3, cx⟩ := bothB cx
  obtain ⟨x_4, cx⟩ := bothB cx
  obtain ⟨x_5, cx⟩ := bothB cx
  have x_6 := cx
  have o_NoTrain := ownB_ok x_0
  have lookLookupError := binB_ok x_1
  have k_NoTrain_NoTrain := of_decide_eq_true x_2
  have k_NoTrain_LookupError := of_decide_eq_true x_3
  have xm_NoTrain := of_decide_eq_true x_4
  have k_any := of_decide_eq_true x_5
  have h_tabs := List.isEmpty_iff.mp x_6
  refine ⟨fd, fun s v => bl s [v] rfl, fun base _ _ => ?_⟩
  have c_capacity := can_capacity (P := P) (w := w) (base := base) D_capacity B
  have c_order := can_order (P := P) (w := w) (base := base) D_order B
  have c_spans := can_spans (P := P) (w := w) (base := base) D_spans B (c_capacity := c_capacity)
  have c_mixing_spans := can_mixing_spans (P := P) (w := w) (base := base) D_mixing_spans B (c_spans := c_spans)
  have c_joints := can_joints (P := P) (w := w) (base := base) D_joints B (c_mixing_spans := c_mixing_spans)
  have c_blocks := can_blocks (P := P) (w := w) (base := base) D_blocks B (c_joints := c_joints)
  have c_blocks_at := can_blocks_at (P := P) (w := w) (base := base) D_blocks_at B (c_blocks := c_blocks) (c_spans := c_spans)
  have c_groups := can_groups (P := P) (w := w) (base := base) D_groups B (c_order := c_order) (c_blocks := c_blocks)
  have i_NoTrain : CanI P w K mg base 1 "NoTrain" _ _ _ _ id fun _ => True := can_iNoTrain o_NoTrain.xc m_NoTrain o_NoTrain.hi o_NoTrain.ht D_iNoTrain b_NoTrain o_NoTrain.no B lookLookupError
  have c_block_of := can_block_of (P := P) (w := w) (base := base) D_block_of B (i_NoTrain := i_NoTrain) (c_groups := c_groups)
  have cw_places_of := can_places_of (P := P) (w := w) (base := base) D_places_of B (c_block_of := c_block_of) (c_blocks_at := c_blocks_at) (c_order := c_order)
  have c_places_of := cw_places_of.can
  have cw_may_meet := can_may_meet (P := P) (w := w) (base := base) D_may_meet B (c_block_of := c_block_of)
  have c_may_meet := cw_may_meet.can
  have cw_ever_ahead := can_ever_ahead (P := P) (w := w) (base := base) D_ever_ahead B (c_block_of := c_block_of)
  have c_ever_ahead := cw_ever_ahead.can
  have c_cell_at := can_cell_at (P := P) (w := w) (base := base) D_cell_at B
  have c_box := can_box (P := P) (w := w) (base := base) D_box B (c_cell_at := c_cell_at)
  have c_take : Can P w K mg base 1 _ _ _ := can_take D_take
  have c_of := can_of (P := P) (w := w) (base := base) D_of B (c_take := c_take)
  have c_same := can_same (P := P) (w := w) (base := base) D_same B 3
  have c_lists := can_lists (P := P) (w := w) (base := base) D_lists B 3
  have c_strewn := can_strewn (P := P) (w := w) (base := base) D_strewn B (c_take := c_take)
  have c_rail := can_rail (P := P) (w := w) (base := base) D_rail B (c_take := c_take) (c_of := c_of)
  have c_total := can_total (P := P) (w := w) (base := base) D_total B
  have c_ids := can_ids (P := P) (w := w) (base := base) D_ids B (c_strewn := c_strewn) (c_of := c_of) (c_take := c_take)
  have c_numbers := can_numbers (P := P) (w := w) (base := base) D_numbers B (c_of := c_of)
  have c_parked := can_parked (P := P) (w := w) (base := base) D_parked B
  have c_count := can_count (P := P) (w := w) (base := base) D_count B (c_total := c_total) (c_take := c_take)
  have c_scene := can_scene (P := P) (w := w) (base := base) D_scene B (c_rail := c_rail) (c_count := c_count) (c_parked := c_parked) (c_ids := c_ids) (c_numbers := c_numbers)
  have c_carts := can_carts (P := P) (w := w) (base := base) D_carts B
  have c_spot := can_spot (P := P) (w := w) (base := base) D_spot B
  have c_can := can_can (P := P) (w := w) (base := base) D_can B (c_spot := c_spot)
  have c_gone := can_gone (P := P) (w := w) (base := base) D_gone B (c_spot := c_spot)
  have c_hops := can_hops (P := P) (w := w) (base := base) D_hops B (c_carts := c_carts) (c_can := c_can)
  have c_reached := can_reached (P := P) (w := w) (base := base) D_reached B (c_hops := c_hops) (c_gone := c_gone)
  have c_ahead := can_ahead (P := P) (w := w) (base := base) D_ahead B (c_spot := c_spot)
  have c_together := can_together (P := P) (w := w) (base := base) D_together B (c_spot := c_spot)
  have c_missing := can_missing (P := P) (w := w) (base := base) D_missing B (m_NoTrain := m_NoTrain) (m_Inside := m_Inside) (m_NoNumber := m_NoNumber) (m_NoPlace := m_NoPlace) (ec := o_NoTrain.ec) (xf := o_NoTrain.xf) (hno := o_NoTrain.no) (k1 := k_NoTrain_NoTrain) (k2 := k_any) (k4 := k_NoTrain_LookupError) (xm := xm_NoTrain) (c_places_of := c_places_of) (c_may_meet := c_may_meet) (c_ever_ahead := c_ever_ahead)
  have c_right := can_right (P := P) (w := w) (base := base) D_right B (cNoTrain := _) (cInside := He.ga K "Inside") (cNoNumber := He.ga K "NoNumber") (cNoPlace := He.ga K "NoPlace") (c_scene := c_scene) (c_reached := c_reached) (c_carts := c_carts) (c_lists := c_lists) (cw_places_of := cw_places_of) (c_same := c_same) (cw_may_meet := cw_may_meet) (cw_ever_ahead := cw_ever_ahead) (c_spot := c_spot) (c_missing := c_missing) (c_together := c_together) (c_ahead := c_ahead)
  exact ok_law D_law B (c_box := c_box) (c_right := c_right)
end Kx
open PySem PySem.W PySem.Calls PyProof.Rows
set_option maxHeartbeats 0 in
theorem PySem.Challenge.cw_passyards_k25_where_trains_can_go_holds : PySem.Challenge.rw_passyards_k25_where_trains_can_go.Holds := by
  w_on; o_law
  refine HandSHeadRun.head_any (r := OpenLaw.row PySem.Challenge.rw_passyards_k25_where_trains_can_go) (q := view (OpenLaw.row PySem.Challenge.rw_passyards_k25_where_trains_can_go).prog [45]) (H := Kx.hk) (ob := Kx.ob) (M := 3000) (loose := Kx.loose) (d := HandSHeadRun.topDef (OpenLaw.row PySem.Challenge.rw_passyards_k25_where_trains_can_go).prog 45) (kwd := []) Kx.ob_eq
    (by kernel_rfl) (fun s => by kernel_rfl) Kx.run (by kernel_rfl) (by kernel_rfl) (by kernel_rfl) (by rfl) (by first | assumption | decide +kernel) (by decide +kernel) ⟨rfl, rfl, rfl, rfl, rfl, by decide +kernel⟩ ?hw ?hc
  case hw => w_witness2
  case hc =>
    refine L2.walk_ofE (l := PySem.Challenge.rw_passyards_k25_where_trains_can_go) (n := 63) (k := 11) (x := "_law_script") (CX := L2.CX0) rfl (by decide) (by kernel_rfl) ⟨rfl, by decide, by decide⟩ ?F (fun _ _ _ _ z => z)
    intro w mg fa h Y G hmg0
    obtain ⟨K, KX, c, cx⟩ := Y
    have hmg : mg ("law" : PySem.Str) = some (.ref fa) := by
      have e : (HandSHeadRun.topDef (OpenLaw.row PySem.Challenge.rw_passyards_k25_where_trains_can_go).prog 45).name = ("law" : PySem.Str) := by kernel_rfl
      rw [← e]
      exact hmg0
    obtain ⟨fd, hb, hF⟩ := Kx.facts (P := (PySem.Challenge.rw_passyards_k25_where_trains_can_go).prog) (w := w) KX G hmg c cx
    exact ⟨K, fd, Dl.spS K 0 Kx.phLaw, KX, hb, fun H a ns hl _ hS => Dl.law_end (Kx.no_tabs cx) hS ⟨rfl, hl, rfl⟩, hF⟩
