import PyProof.Rows.All
import Wide.All
import OpenK.AllK
import Wide.FinOn
import HandS.ForMost
import HandS.Wide
import HandS.WideBits
import HandS.Style
import HandS.TupAny
import HandS.TupMul
import HandS.IsInst
import HandS.RaiseMore
import HandS.Gcd
import PyProof.ReprRoads
import HandS.NoneIn
import PyProof.LongRange
import HandS.RevRange
import HandS.FStrTup
import KE.KRevSl
import HandS.Zip
import HandS.Iter
import HandS.Conv
import KE.BitLaws
import HandS.List
import HandS.TupLe
import HandS.StrMore
import PyProof.EqKinds
import KE.GoesEnum
import HandS.TupSets
import HandS.SortOrd
import HandS.SetFor
import HandS.Strs
import HandS.SortInts
import PyProof.NeKinds
import HandS.Deep
import HandS.Defaults
import HandS.Exc
import HandS.ExcField
import KE.KExcInit
import KE.KExcIs
import HandS.Ends
import HandS.Star
import HandS.Flow
import KE.DataMinMax
import HandS.Replace
import PyProof.StrOps2
import HandS.SortKw
import PyProof.Rows.StrPadFill
import HandS.More
import PyProof.CollectIter
import PyProof.WalksMore
import HandS.Dict
import PySem.Challenge.RW_numbertexts_k14_texts_read
set_option Elab.async false
set_option linter.all false
set_option exponentiation.threshold 50000
set_option maxRecDepth 100000
/-! data instead of addresses: values D, a relation to the layer's heap, readings over D -/
namespace DL
open PySem PySem.Spec PyProof.Rows L2

inductive D where
  | non | bl (b : Bool) | int (i : Int) | str (x : Str) | tup (l : List D) | lst (l : List D) | own (l : List D) | frz (l : List D) | box (i : Nat) | ty (n : String) | exc (a dd : Addr) (f : Str) (x : D) | dct (l : List (Str × Int))

abbrev Mem := List (List D)
abbrev DSt := List (Option D)

def OkL (M : Addr → Prop) (H : Hp) (a : Addr) (xs : List V) : Prop := ¬ M a ∧ H a = some (.lst xs)
def OkF (K : PySem.W.Frag) (M : Addr → Prop) (H : Hp) (a : Addr) (xs : List V) : Prop := (¬ M a ∧ ∃ o, H a = some (.frz o (.lst xs))) ∨ SqL K (fun _ => none) a xs
def OkT (K : PySem.W.Frag) (M : Addr → Prop) (H : Hp) (a : Addr) (xs : List V) : Prop := (¬ M a ∧ Rd H a (.tup xs)) ∨ SqT K (fun _ => none) a xs
section
variable {K : PySem.W.Frag} {M M' : Addr → Prop} {H H' : Hp} {a : Addr} {xs : List V}
theorem rd_none {u : HO} : ¬ Rd (fun _ => none) a u := fun r => by
  rcases r with r | ⟨o, r⟩ <;> cases r
theorem OkL.sq (h : OkL M H a xs) : SqL K H a xs := SqL.of h.2
theorem OkF.sq (h : OkF K M H a xs) : SqL K H a xs := by
  rcases h with ⟨_, r⟩ | h
  · exact .inl (.inr r)
  · rcases h with r | w
    · exact absurd r rd_none
    · exact .inr w
theorem OkT.sq (h : OkT K M H a xs) : SqT K H a xs := by
  rcases h with ⟨_, r⟩ | h
  · exact .inl r
  · rcases h with r | w
    · exact absurd r rd_none
    · exact .inr w
/-- what is not meant to change is as it was -/
def Kp (M M' : Addr → Prop) (H H' : Hp) : Prop := ∀ a o, ¬ M a → H a = some o → H' a = some o ∧ ¬ M' a
theorem Kp.rd {u : HO} (k : Kp M M' H H') (m : ¬ M a) (r : Rd H a u) : Rd H' a u ∧ ¬ M' a := by
  rcases r with r | ⟨o, r⟩
  · exact ⟨.inl (k _ _ m r).1, (k _ _ m r).2⟩
  · exact ⟨.inr ⟨o, (k _ _ m r).1⟩, (k _ _ m r).2⟩
theorem OkL.stay (k : Kp M M' H H') (h : OkL M H a xs) : OkL M' H' a xs := ⟨(k _ _ h.1 h.2).2, (k _ _ h.1 h.2).1⟩
theorem OkF.stay (k : Kp M M' H H') (h : OkF K M H a xs) : OkF K M' H' a xs := by
  rcases h with ⟨m, o, e⟩ | h
  · exact .inl ⟨(k _ _ m e).2, o, (k _ _ m e).1⟩
  · exact .inr h
theorem OkT.stay (k : Kp M M' H H') (h : OkT K M H a xs) : OkT K M' H' a xs := by
  rcases h with ⟨m, r⟩ | h
  · exact .inl ⟨(k.rd m r).2, (k.rd m r).1⟩
  · exact .inr h
end

/-- a dict as it lies -/
def dkv (l : List (Str × Int)) : List (Key × V) := l.map fun p => ((Sum.inr p.1 : Key), V.int p.2)
mutual
def Rp (K : PySem.W.Frag) (bx : List Addr) (M : Addr → Prop) (H : Hp) : D → V → Prop
  | .non, v => v = .non
  | .bl b, v => v = .bl b
  | .int i, v => v = .int i
  | .str x, v => v = .str x
  | .tup l, v => ∃ a xs, v = .ref a ∧ OkT K M H a xs ∧ Rps K bx M H l xs
  | .lst l, v => ∃ a xs, v = .ref a ∧ OkL M H a xs ∧ Rps K bx M H l xs
  | .frz l, v => ∃ a xs, v = .ref a ∧ OkF K M H a xs ∧ Rps K bx M H l xs
  | .own _, _ => False
  | .box i, v => ∃ a, bx[i]? = some a ∧ v = .ref a
  | .ty n, v => v = .ty n
  | .exc a dd f x, v => v = .ref a ∧ ¬ M dd ∧ ∃ w, H dd = some (.xd [(f, w)]) ∧ Rp K bx M H x w
  | .dct l, v => ∃ a, v = .ref a ∧ ¬ M a ∧ H a = some (.dK (dkv l))
def Rps (K : PySem.W.Frag) (bx : List Addr) (M : Addr → Prop) (H : Hp) : List D → List V → Prop
  | [], xs => xs = []
  | d :: l, xs => ∃ v r, xs = v :: r ∧ Rp K bx M H d v ∧ Rps K bx M H l r
end
section
variable {K : PySem.W.Frag} {bx : List Addr} {M M' : Addr → Prop} {H H' : Hp} {a : Addr} {xs : List V}
mutual
theorem Rp.stay (k : Kp M M' H H') : ∀ (d : D) (v : V), Rp K bx M H d v → Rp K bx M' H' d v
  | .non, v, h => h
  | .bl b, v, h => h
  | .int i, v, h => h
  | .str x, v, h => h
  | .tup l, v, h => by
    obtain ⟨a, xs, e, o, r⟩ := h
    exact ⟨a, xs, e, o.stay k, Rps.stay k l xs r⟩
  | .lst l, v, h => by
    obtain ⟨a, xs, e, o, r⟩ := h
    exact ⟨a, xs, e, o.stay k, Rps.stay k l xs r⟩
  | .frz l, v, h => by
    obtain ⟨a, xs, e, o, r⟩ := h
    exact ⟨a, xs, e, o.stay k, Rps.stay k l xs r⟩
  | .own l, v, h => h
  | .box i, v, h => h
  | .ty i, v, h => h
  | .exc a dd f x, v, ⟨e, m, w, h1, h2⟩ => ⟨e, (k _ _ m h1).2, w, (k _ _ m h1).1, Rp.stay k x w h2⟩
  | .dct l, v, h => by
    obtain ⟨a, e, m, r⟩ := h
    exact ⟨a, e, (k _ _ m r).2, (k _ _ m r).1⟩
theorem Rps.stay (k : Kp M M' H H') : ∀ (l : List D) (xs : List V), Rps K bx M H l xs → Rps K bx M' H' l xs
  | [], xs, h => h
  | d :: l, xs, h => by
    obtain ⟨v, r, e, h1, h2⟩ := h
    exact ⟨v, r, e, Rp.stay k d v h1, Rps.stay k l r h2⟩
end
theorem Rps.len : ∀ {l : List D} {xs : List V}, Rps K bx M H l xs → xs.length = l.length
  | [], _, h => by rw [show _ = _ from h]; rfl
  | d :: l, xs, h => by
    obtain ⟨v, r, rfl, h1, h2⟩ := h
    simp [Rps.len h2]
theorem Rps.get : ∀ {l : List D} {xs : List V} {i : Nat} {d : D}, Rps K bx M H l xs → l[i]? = some d → ∃ v, xs[i]? = some v ∧ Rp K bx M H d v
  | [], _, _, _, _, e => by simp at e
  | d :: l, xs, 0, d', h, e => by
    obtain ⟨v, r, rfl, h1, h2⟩ := h
    simp at e; subst e
    exact ⟨v, rfl, h1⟩
  | d :: l, xs, i + 1, d', h, e => by
    obtain ⟨v, r, rfl, h1, h2⟩ := h
    obtain ⟨v', e1, e2⟩ := Rps.get (i := i) h2 (by simpa using e)
    exact ⟨v', by simpa using e1, e2⟩
theorem Rps.get' : ∀ {l : List D} {xs : List V} {i : Nat} {v : V}, Rps K bx M H l xs → xs[i]? = some v → ∃ d, l[i]? = some d ∧ Rp K bx M H d v := fun {l xs i v} h e => by
  have hi : i < l.length := by
    rw [← h.len]
    exact (List.getElem?_eq_some_iff.mp e).1
  obtain ⟨v', e1, e2⟩ := Rps.get h (List.getElem?_eq_getElem hi)
  rw [e] at e1; cases e1
  exact ⟨_, List.getElem?_eq_getElem hi, e2⟩
theorem Rps.app : ∀ {l m : List D} {xs ys : List V}, Rps K bx M H l xs → Rps K bx M H m ys → Rps K bx M H (l ++ m) (xs ++ ys)
  | [], m, xs, ys, h, h' => by rw [show xs = [] from h]; exact h'
  | d :: l, m, xs, ys, h, h' => by
    obtain ⟨v, r, rfl, h1, h2⟩ := h
    exact ⟨v, r ++ ys, rfl, h1, Rps.app h2 h'⟩
theorem Rps.take : ∀ {l : List D} {xs : List V} (n : Nat), Rps K bx M H l xs → Rps K bx M H (l.take n) (xs.take n)
  | _, _, 0, _ => rfl
  | [], xs, n + 1, h => by rw [show xs = [] from h]; rfl
  | d :: l, xs, n + 1, h => by
    obtain ⟨v, r, rfl, h1, h2⟩ := h
    exact ⟨v, r.take n, rfl, h1, Rps.take n h2⟩
theorem Rps.drop : ∀ {l : List D} {xs : List V} (n : Nat), Rps K bx M H l xs → Rps K bx M H (l.drop n) (xs.drop n)
  | _, _, 0, h => h
  | [], xs, n + 1, h => by rw [show xs = [] from h]; rfl
  | d :: l, xs, n + 1, h => by
    obtain ⟨v, r, rfl, h1, h2⟩ := h
    exact Rps.drop n h2
theorem Rps.one {d : D} {v : V} (h : Rp K bx M H d v) : Rps K bx M H [d] [v] := ⟨v, [], rfl, h, rfl⟩
theorem Rps.rev : ∀ {l : List D} {xs : List V}, Rps K bx M H l xs → Rps K bx M H l.reverse xs.reverse
  | [], xs, h => by rw [show xs = [] from h]; rfl
  | d :: l, xs, h => by
    obtain ⟨v, r, rfl, h1, h2⟩ := h
    rw [List.reverse_cons, List.reverse_cons]
    exact Rps.app (Rps.rev h2) (Rps.one h1)
theorem Rps.set : ∀ {l : List D} {xs : List V} {d : D} {v : V} (i : Nat), Rps K bx M H l xs → Rp K bx M H d v → Rps K bx M H (l.set i d) (xs.set i v)
  | [], xs, _, _, _, h, _ => by rw [show xs = [] from h]; rfl
  | d :: l, xs, d', v', 0, h, h' => by
    obtain ⟨v, r, rfl, h1, h2⟩ := h
    exact ⟨v', r, rfl, h', h2⟩
  | d :: l, xs, d', v', i + 1, h, h' => by
    obtain ⟨v, r, rfl, h1, h2⟩ := h
    exact ⟨v, r.set i v', rfl, h1, Rps.set i h2 h'⟩
theorem Rps.ints : ∀ {ns : List Int} {xs : List V}, Rps K bx M H (ns.map D.int) xs → xs = ns.map V.int
  | [], xs, h => h
  | n :: ns, xs, h => by
    obtain ⟨v, r, rfl, h1, h2⟩ := h
    rw [show v = V.int n from h1, Rps.ints h2]; rfl
theorem Rps.of_ints : ∀ (ns : List Int), Rps K bx M H (ns.map D.int) (ns.map V.int)
  | [] => rfl
  | n :: ns => ⟨_, _, rfl, rfl, Rps.of_ints ns⟩
end

structure Gm where
  K : PySem.W.Frag
  bx : List Addr
  M0 : Addr → Prop
  H0 : Hp
  Fr : List (V × D)

def RpS (G : Gm) (M : Addr → Prop) (H : Hp) : D → V → Prop
  | .own l, v => ∃ p xs, v = .ref p ∧ M p ∧ G.H0 p = none ∧ H p = some (.lst xs) ∧ Rps G.K G.bx M H l xs
  | d, v => Rp G.K G.bx M H d v

structure SR (G : Gm) (M : Addr → Prop) (σ : List (Option V)) (H : Hp) (σd : DSt) (μ : Mem) : Prop where
  len : σ.length = σd.length
  slot : ∀ (i : Nat) (d : D), σd[i]? = some (some d) → ∃ v : V, σ[i]? = some (some v) ∧ RpS G M H d v
  dist : ∀ (i j : Nat) (p : Addr) (l l' : List D), σd[i]? = some (some (.own l)) → σd[j]? = some (some (.own l')) → σ[i]? = some (some (.ref p)) → σ[j]? = some (some (.ref p)) → i = j
  blen : μ.length = G.bx.length
  box : ∀ (i : Nat) (a : Addr) (l : List D), G.bx[i]? = some a → μ[i]? = some l → ∃ xs, H a = some (.lst xs) ∧ Rps G.K G.bx M H l xs
  keep : ∀ a o, a ∉ G.bx → G.H0 a = some o → H a = some o
  m0 : ∀ a, G.M0 a → M a
  fr : ∀ p ∈ G.Fr, Rp G.K G.bx M H p.2 p.1
  mt : ∀ a, M a → ∃ o, H a = some o
  nd : G.bx.Nodup
  bm : ∀ a ∈ G.bx, G.M0 a
  m0t : ∀ a, G.M0 a → ∃ o, G.H0 a = some o

theorem RpS.of {G : Gm} {M : Addr → Prop} {H : Hp} {d : D} {v : V} (h : Rp G.K G.bx M H d v) : RpS G M H d v := by
  cases d with
  | own l => exact (show False from h).elim
  | _ => exact h
theorem RpS.stay {G : Gm} {M M' : Addr → Prop} {H H' : Hp} (k : Kp M M' H H') (hm : ∀ p l, M p → G.H0 p = none → H p = some (.lst l) → M' p ∧ H' p = some (.lst l)) : ∀ {d : D} {v : V}, RpS G M H d v → RpS G M' H' d v := fun {d v} h => by
  cases d with
  | own l =>
    obtain ⟨p, xs, e, m, h0, hp, r⟩ := h
    exact ⟨p, xs, e, (hm p xs m h0 hp).1, h0, (hm p xs m h0 hp).2, Rps.stay k _ _ r⟩
  | _ => exact Rp.stay k _ _ h

section
variable {G : Gm} {M M' : Addr → Prop} {σ : List (Option V)} {H H' : Hp} {σd : DSt} {μ : Mem} {p : Addr} {o : HO} {v : V} {d : D}
theorem SR.kpNew (S : SR G M σ H σd μ) (hp : H p = none) : Kp M M H (upd H p o) := fun a u m e => ⟨by rw [upd_ne (ne_of_none e hp)]; exact e, m⟩
/-- a new object -/
theorem SR.new (S : SR G M σ H σd μ) (hp : H p = none) : SR G M σ (upd H p o) σd μ := by
  have k : Kp M M H (upd H p o) := S.kpNew hp
  have nm : ∀ a, M a → a ≠ p := fun a m => by obtain ⟨u, e⟩ := S.mt a m; exact ne_of_none e hp
  refine ⟨S.len, fun i d e => ?_, S.dist, S.blen, fun i a l e1 e2 => ?_, fun a u h1 h2 => ?_, S.m0, fun q hq => Rp.stay k _ _ (S.fr q hq), fun a m => ?_, S.nd, S.bm, S.m0t⟩
  · obtain ⟨v, e1, r⟩ := S.slot i d e
    exact ⟨v, e1, r.stay k fun q l m _ e => ⟨m, by rw [upd_ne (nm q m)]; exact e⟩⟩
  · obtain ⟨xs, e3, r⟩ := S.box i a l e1 e2
    exact ⟨xs, by rw [upd_ne (ne_of_none e3 hp)]; exact e3, Rps.stay k _ _ r⟩
  · have := S.keep a u h1 h2
    rw [upd_ne (ne_of_none this hp)]; exact this
  · obtain ⟨u, e⟩ := S.mt a m
    exact ⟨u, by rw [upd_ne (nm a m)]; exact e⟩
theorem SR.newL (S : SR G M σ H σd μ) (hp : H p = none) {l : List D} {xs : List V} (r : Rps G.K G.bx M H l xs) : Rp G.K G.bx M (upd H p (.lst xs)) (.lst l) (.ref p) := by
  have np : ¬ M p := fun m => by obtain ⟨u, e⟩ := S.mt p m; rw [hp] at e; cases e
  exact ⟨p, xs, rfl, ⟨np, upd_same⟩, Rps.stay (S.kpNew hp) _ _ r⟩
theorem SR.newT (S : SR G M σ H σd μ) (hp : H p = none) {l : List D} {xs : List V} (r : Rps G.K G.bx M H l xs) : Rp G.K G.bx M (upd H p (.tup xs)) (.tup l) (.ref p) := by
  have np : ¬ M p := fun m => by obtain ⟨u, e⟩ := S.mt p m; rw [hp] at e; cases e
  exact ⟨p, xs, rfl, .inl ⟨np, .inl upd_same⟩, Rps.stay (S.kpNew hp) _ _ r⟩
/-- a further frozen value to be kept -/
def Gm.pin (G : Gm) (v : V) (d : D) : Gm := { G with Fr := (v, d) :: G.Fr }
def Gm.pins (G : Gm) (F : List (V × D)) : Gm := { G with Fr := F ++ G.Fr }
theorem SR.pin (S : SR G M σ H σd μ) (r : Rp G.K G.bx M H d v) : SR (G.pin v d) M σ H σd μ :=
  ⟨S.len, fun i d e => by obtain ⟨v, e1, q⟩ := S.slot i d e; exact ⟨v, e1, by cases d <;> exact q⟩, S.dist, S.blen, S.box, S.keep, S.m0, fun q hq => by
    rcases List.mem_cons.mp hq with rfl | hq
    · exact r
    · exact S.fr q hq, S.mt, S.nd, S.bm, S.m0t⟩
end
end DL

set_option maxRecDepth 100000
namespace DL
open PySem PySem.Spec L2

abbrev DTE := DSt → Mem → (D → Mem → Prop) → Prop
abbrev DTT := DSt → Mem → (Bool → Mem → Prop) → Prop
abbrev DTA := DSt → Mem → (List D → Mem → Prop) → Prop
structure DEnds where
  nx : DSt → Mem → Prop
  rt : D → Mem → Prop
  bk : DSt → Mem → Prop := fun _ _ => False
  ct : DSt → Mem → Prop := fun _ _ => False
abbrev DTS := DEnds → DSt → Mem → Prop

structure DE (X : Cx) (e : Expr) (t : DTE) : Prop where
  ex : ∃ te : TE, PE X e te ∧ ∀ (G : Gm) (M : Addr → Prop) (σ : St) (H : Hp) (σd : DSt) (μ : Mem) (Q : D → Mem → Prop) (R : VK), G.K = X.K → SR G M σ H σd μ → t σd μ Q →
    (∀ v H' d μ', SR G M σ H' σd μ' → Rp G.K G.bx M H' d v → Q d μ' → R v H') → te σ H R
structure DT (X : Cx) (e : Expr) (t : DTT) : Prop where
  ex : ∃ te : TT, PT X e te ∧ ∀ (G : Gm) (M : Addr → Prop) (σ : St) (H : Hp) (σd : DSt) (μ : Mem) (Q : Bool → Mem → Prop) (R : Bool → Hp → Prop), G.K = X.K → SR G M σ H σd μ → t σd μ Q →
    (∀ b H' μ', SR G M σ H' σd μ' → Q b μ' → R b H') → te σ H R
structure DW (X : Cx) (e : Expr) (t : DTT) : Prop where
  ex : ∃ te : TT, PW X e te ∧ ∀ (G : Gm) (M : Addr → Prop) (σ : St) (H : Hp) (σd : DSt) (μ : Mem) (Q : Bool → Mem → Prop) (R : Bool → Hp → Prop), G.K = X.K → SR G M σ H σd μ → t σd μ Q →
    (∀ b H' μ', SR G M σ H' σd μ' → Q b μ' → R b H') → te σ H R
structure DA (X : Cx) (es : List Expr) (t : DTA) : Prop where
  ex : ∃ te : TA, PA X es te ∧ ∀ (G : Gm) (M : Addr → Prop) (σ : St) (H : Hp) (σd : DSt) (μ : Mem) (Q : List D → Mem → Prop) (R : List V → Hp → Prop), G.K = X.K → SR G M σ H σd μ → t σd μ Q →
    (∀ vs H' ds μ', SR G M σ H' σd μ' → Rps G.K G.bx M H' ds vs → Q ds μ' → R vs H') → te σ H R
/-- what the ends over D and those over addresses have to do with one another -/
structure Lk (G : Gm) (De : DEnds) (E : Ends) : Prop where
  nx : ∀ M σ H σd μ, SR G M σ H σd μ → De.nx σd μ → E.nx σ H
  rt : ∀ M σ H σd μ v d, SR G M σ H σd μ → Rp G.K G.bx M H d v → De.rt d μ → E.rt v H
  bk : ∀ M σ H σd μ, SR G M σ H σd μ → De.bk σd μ → E.bk σ H
  ct : ∀ M σ H σd μ, SR G M σ H σd μ → De.ct σd μ → E.ct σ H
structure DS (X : Cx) (st : Stmt) (t : DTS) : Prop where
  ex : ∃ ts : TS, PS X st ts ∧ ∀ (G : Gm) (M : Addr → Prop) (σ : St) (H : Hp) (σd : DSt) (μ : Mem) (De : DEnds) (E : Ends), G.K = X.K → SR G M σ H σd μ → t De σd μ → Lk G De E → ts E σ H
structure DSs (X : Cx) (st : List Stmt) (t : DTS) : Prop where
  ex : ∃ ts : TS, PSs X st ts ∧ ∀ (G : Gm) (M : Addr → Prop) (σ : St) (H : Hp) (σd : DSt) (μ : Mem) (De : DEnds) (E : Ends), G.K = X.K → SR G M σ H σd μ → t De σd μ → Lk G De E → ts E σ H

theorem SR.unpin {G : Gm} {M : Addr → Prop} {σ : St} {H : Hp} {σd : DSt} {μ : Mem} {v : V} {d : D} (S : SR (G.pin v d) M σ H σd μ) : SR G M σ H σd μ ∧ Rp G.K G.bx M H d v := by
  refine ⟨⟨S.len, fun i d e => ?_, S.dist, S.blen, S.box, S.keep, S.m0, fun q hq => S.fr q (List.mem_cons_of_mem _ hq), S.mt, S.nd, S.bm, S.m0t⟩, S.fr (v, d) (List.mem_cons_self)⟩
  obtain ⟨v, e1, q⟩ := S.slot i d e
  exact ⟨v, e1, by cases d <;> exact q⟩
theorem Lk.pin {G : Gm} {De : DEnds} {E : Ends} {v : V} {d : D} (L : Lk G De E) : Lk (G.pin v d) De E :=
  ⟨fun _ _ _ _ _ S => L.nx _ _ _ _ _ S.unpin.1, fun _ _ _ _ _ _ _ S => L.rt _ _ _ _ _ _ _ S.unpin.1, fun _ _ _ _ _ S => L.bk _ _ _ _ _ S.unpin.1, fun _ _ _ _ _ S => L.ct _ _ _ _ _ S.unpin.1⟩
theorem SR.pinned {G : Gm} {M : Addr → Prop} {σ : St} {H : Hp} {σd : DSt} {μ : Mem} {v : V} {d : D} (S : SR G M σ H σd μ) (r : Rp G.K G.bx M H d v) : SR (G.pin v d) M σ H σd μ := S.pin r
def Gm.pinAll (G : Gm) : List D → List V → Gm
  | d :: ds, v :: vs => (G.pinAll ds vs).pin v d
  | _, _ => G

section
variable {X : Cx} {e a b c : Expr} {t ta tb tc : DTE} {pos : Pos}
/-! ### names, constants -/
def D.fz : D → Bool
  | .own _ => false
  | _ => true
def dVar (i : Nat) : DTE := fun σd μ Q => ∃ d : D, σd[i]? = some (some d) ∧ d.fz = true ∧ Q d μ
theorem RpS.fz {G : Gm} {M : Addr → Prop} {H : Hp} {d : D} {v : V} (h : RpS G M H d v) (z : d.fz = true) : Rp G.K G.bx M H d v := by
  cases d with
  | own l => cases z
  | _ => exact h
theorem de_pv {i : Nat} (h : PE X e (tVar i)) : DE X e (dVar i) := by
  refine ⟨_, h, fun G M σ H σd μ Q R hK S hq r => ?_⟩
  obtain ⟨d, e1, z, q⟩ := hq
  obtain ⟨v, e2, rv⟩ := S.slot i d e1
  exact ⟨v, e2, r v H d μ S (rv.fz z) q⟩
def dC (d : D) : DTE := fun _ μ Q => Q d μ
theorem de_c {v : V} {d : D} (h : PE X e (tC v)) (r : ∀ K bx M H, Rp K bx M H d v) : DE X e (dC d) :=
  ⟨_, h, fun G M σ H σd μ Q R hK S hq k => k v H d μ S (r _ _ _ _) hq⟩
theorem de_int {i : Int} {j} : DE X (.Constant (.int i) j pos) (dC (.int i)) := de_c pe_int fun _ _ _ _ => rfl
theorem de_bl {i : Bool} {j} : DE X (.Constant (.bool i) j pos) (dC (.bl i)) := de_c pe_bl fun _ _ _ _ => rfl
theorem de_non {j} : DE X (.Constant .none j pos) (dC .non) := de_c pe_non fun _ _ _ _ => rfl
theorem de_str {i : Str} {j} : DE X (.Constant (.str i) j pos) (dC (.str i)) := de_c pe_str fun _ _ _ _ => rfl

theorem rpI {K bx M H} (i : Int) : Rp K bx M H (.int i) (.int i) := rfl
theorem rpB {K bx M H} (i : Bool) : Rp K bx M H (.bl i) (.bl i) := rfl
theorem rpS {K bx M H} (i : Str) : Rp K bx M H (.str i) (.str i) := rfl
theorem rpN {K bx M H} : Rp K bx M H .non .non := rfl
/-! ### operators -/
abbrev DR2 := D → D → Mem → (D → Mem → Prop) → Prop
structure OD (X : Cx) (f : Value → Value → Sem Value) (rd : DR2) : Prop where
  ex : ∃ r : R2, OpR X f r ∧ ∀ (G : Gm) (M : Addr → Prop) (σ : St) (H : Hp) (σd : DSt) (μ : Mem) (x y : V) (dx dy : D) (Q : D → Mem → Prop) (R : VK), G.K = X.K → SR G M σ H σd μ → Rp G.K G.bx M H dx x → Rp G.K G.bx M H dy y → rd dx dy μ Q →
    (∀ v H' d μ', SR G M σ H' σd μ' → Rp G.K G.bx M H' d v → Q d μ' → R v H') → r x y H R
def dOp (rd : DR2) (ta tb : DTE) : DTE := fun σd μ Q => ta σd μ fun x μ1 => tb σd μ1 fun y μ2 => rd x y μ2 Q
theorem bin2 {te te' : TE} {rd : DR2} {r : R2}
    (ha : ∀ (G : Gm) (M : Addr → Prop) (σ : St) (H : Hp) (σd : DSt) (μ : Mem) (Q : D → Mem → Prop) (R : VK), G.K = X.K → SR G M σ H σd μ → ta σd μ Q → (∀ v H' d μ', SR G M σ H' σd μ' → Rp G.K G.bx M H' d v → Q d μ' → R v H') → te σ H R)
    (hb : ∀ (G : Gm) (M : Addr → Prop) (σ : St) (H : Hp) (σd : DSt) (μ : Mem) (Q : D → Mem → Prop) (R : VK), G.K = X.K → SR G M σ H σd μ → tb σd μ Q → (∀ v H' d μ', SR G M σ H' σd μ' → Rp G.K G.bx M H' d v → Q d μ' → R v H') → te' σ H R)
    (hr : ∀ (G : Gm) (M : Addr → Prop) (σ : St) (H : Hp) (σd : DSt) (μ : Mem) (x y : V) (dx dy : D) (Q : D → Mem → Prop) (R : VK), G.K = X.K → SR G M σ H σd μ → Rp G.K G.bx M H dx x → Rp G.K G.bx M H dy y → rd dx dy μ Q →
      (∀ v H' d μ', SR G M σ H' σd μ' → Rp G.K G.bx M H' d v → Q d μ' → R v H') → r x y H R)
    (G : Gm) (M : Addr → Prop) (σ : St) (H : Hp) (σd : DSt) (μ : Mem) (Q : D → Mem → Prop) (R : VK) (hK : G.K = X.K) (S : SR G M σ H σd μ) (hq : dOp rd ta tb σd μ Q)
    (k : ∀ v H' d μ', SR G M σ H' σd μ' → Rp G.K G.bx M H' d v → Q d μ' → R v H') : tOp r te te' σ H R := by
  refine ha G M σ H σd μ _ _ hK S hq fun v H1 d μ1 S1 r1 q1 => ?_
  refine hb (G.pin v d) M σ H1 σd μ1 _ _ hK (S1.pin r1) q1 fun v2 H2 d2 μ2 S2 r2 q2 => ?_
  obtain ⟨S2', r1'⟩ := S2.unpin
  exact hr G M σ H2 σd μ2 _ _ _ _ _ _ hK S2' r1' r2 q2 k
theorem de_op {op : Operator} {rd : DR2} (ho : OD X (binaryOp op) rd) (ha : DE X a ta) (hb : DE X b tb) : DE X (.BinOp a op b pos) (dOp rd ta tb) := by
  obtain ⟨r, ho, hr⟩ := ho.ex
  obtain ⟨te, pa, ha⟩ := ha.ex
  obtain ⟨te', pb, hb⟩ := hb.ex
  exact ⟨_, pe_op ho pa pb, bin2 ha hb hr⟩
theorem de_cmp {op : CmpOp} {rd : DR2} (ho : OD X (compareOp op) rd) (ha : DE X a ta) (hb : DE X b tb) (hm : behindInMarks op b = false) : DE X (.Compare a [op] [b] pos) (dOp rd ta tb) := by
  obtain ⟨r, ho, hr⟩ := ho.ex
  obtain ⟨te, pa, ha⟩ := ha.ex
  obtain ⟨te', pb, hb⟩ := hb.ex
  exact ⟨_, pe_cmpR ho pa pb hm, bin2 ha hb hr⟩
def dTest (t : DTE) : DTT := fun σd μ Q => t σd μ fun x μ' => ∃ k, x = .bl k ∧ Q k μ'
theorem dt_cmp {op : CmpOp} {rd : DR2} (ho : OD X (compareOp op) rd) (ha : DE X a ta) (hb : DE X b tb) (hm : behindInMarks op b = false) : DT X (.Compare a [op] [b] pos) (dTest (dOp rd ta tb)) := by
  obtain ⟨r, ho, hr⟩ := ho.ex
  obtain ⟨te, pa, ha⟩ := ha.ex
  obtain ⟨te', pb, hb⟩ := hb.ex
  refine ⟨_, pt_cmpR ho pa pb hm, fun G M σ H σd μ Q R hK S hq k => ?_⟩
  refine bin2 ha hb hr G M σ H σd μ _ _ hK S hq fun v H' d μ' S' r' q' => ?_
  obtain ⟨kb, rfl, q'⟩ := q'
  exact ⟨kb, r', k kb H' μ' S' q'⟩
theorem dt_val (h : DE X e t) (he : ∀ whole, isTrue e X.env whole = (do let v ← whole; standAt e.pos; holding [v] (truthy v)) := by intro _; rfl) : DT X e (dTest t) := by
  obtain ⟨te, pe, h⟩ := h.ex
  refine ⟨_, pt_val pe he, fun G M σ H σd μ Q R hK S hq k => ?_⟩
  refine h G M σ H σd μ _ _ hK S hq fun v H' d μ' S' r' q' => ?_
  obtain ⟨kb, rfl, q'⟩ := q'
  exact ⟨kb, r', k kb H' μ' S' q'⟩
theorem OD.or {f : Value → Value → Sem Value} {r r' : DR2} (h : OD X f r) (h' : OD X f r') : OD X f (fun x y μ Q => r x y μ Q ∨ r' x y μ Q) := by
  obtain ⟨s, o, h⟩ := h.ex
  obtain ⟨s', o', h'⟩ := h'.ex
  refine ⟨_, o.or o', fun G M σ H σd μ x y dx dy Q R hK S rx ry q k => ?_⟩
  rcases q with q | q
  · exact .inl (h G M σ H σd μ x y dx dy Q R hK S rx ry q k)
  · exact .inr (h' G M σ H σd μ x y dx dy Q R hK S rx ry q k)
def dI (C : Int → Int → Prop) (g : Int → Int → D) : DR2 := fun x y μ Q => ∃ i j, x = .int i ∧ y = .int j ∧ C i j ∧ Q (g i j) μ
def dI0 (g : Int → Int → D) : DR2 := fun x y μ Q => ∃ i j, x = .int i ∧ y = .int j ∧ Q (g i j) μ
theorem od_I {f : Value → Value → Sem Value} {C : Int → Int → Prop} {gv : Int → Int → V} {g : Int → Int → D} (h : OpR X f (rI C gv)) (hg : ∀ i j K bx M H, Rp K bx M H (g i j) (gv i j) := by intros; rfl) : OD X f (dI C g) := by
  refine ⟨_, h, fun G M σ H σd μ x y dx dy Q R hK S rx ry q k => ?_⟩
  obtain ⟨i, j, rfl, rfl, c, q⟩ := q
  exact ⟨i, j, rx, ry, c, k _ H _ μ S (hg _ _ _ _ _ _) q⟩
theorem od_I0 {f : Value → Value → Sem Value} {gv : Int → Int → V} {g : Int → Int → D} (h : OpR X f (rI0 gv)) (hg : ∀ i j K bx M H, Rp K bx M H (g i j) (gv i j) := by intros; rfl) : OD X f (dI0 g) := by
  refine ⟨_, h, fun G M σ H σd μ x y dx dy Q R hK S rx ry q k => ?_⟩
  obtain ⟨i, j, rfl, rfl, q⟩ := q
  exact ⟨i, j, rx, ry, k _ H _ μ S (hg _ _ _ _ _ _) q⟩
def dAddI : DR2 := dI0 fun i j => .int (i + j)
def dSub : DR2 := dI0 fun i j => .int (i - j)
def dMulI : DR2 := dI CMulX fun i j => .int (i * j)
/-- // by a positive divisor, where the division stays in C -/
def CDivX (i j : Int) : Prop := 0 < j ∧ Builtin.divisionGoesByPylong i j = false
theorem CDivX.of {i j : Int} (h : CDivW i j) : CDivX i j := ⟨h.1, PyProof.noPylong_of_log2 h.2⟩
theorem op_fdivX {X : Cx} : OpR X (binaryOp .FloorDiv) (rI CDivX fun i j => .int (i / j)) := opI fun i j _ _ _ _ _ hc q => by
  have h1 : (0 : Int) < j := hc.1
  exact PyProof.Rows.floordiv_int (by omega) (by rw [Int.fdiv_eq_ediv_of_nonneg i (by omega)]; exact q) (.inl hc.2)
theorem CDivX.lt {i j : Int} (j0 : 0 < j) (i0 : 0 ≤ i) (h : i < j * 2 ^ 4400) : CDivX i j := by
  refine ⟨j0, ?_⟩
  have e : Builtin.divisionGoesByPylong i j = (decide ((if (j == 0) = true then 0 else j.natAbs.log2 / 30 + 1) > 300) && decide ((if (i == 0) = true then 0 else i.natAbs.log2 / 30 + 1) > (if (j == 0) = true then 0 else j.natAbs.log2 / 30 + 1) + 150)) := rfl
  rw [e]
  by_cases hi : i = 0
  · rw [if_pos (c := (i == 0) = true) (by subst hi; decide), decide_eq_false (p := _ > _ + 150) (by omega), Bool.and_false]
  have k : i.natAbs.log2 ≤ j.natAbs.log2 + 4400 := by
    have h1 : i.natAbs < 2 ^ (j.natAbs.log2 + 1 + 4400) := by
      have e : (j * 2 ^ 4400).natAbs = j.natAbs * 2 ^ 4400 := by rw [Int.natAbs_mul, Int.natAbs_pow]; rfl
      have h2 : i.natAbs < (j * 2 ^ 4400).natAbs := by
        generalize j * 2 ^ 4400 = z at *
        omega
      rw [e] at h2
      refine Nat.lt_trans h2 ?_
      rw [Nat.pow_add]
      exact Nat.mul_lt_mul_of_pos_right Nat.lt_log2_self (Nat.pow_pos (by decide))
    have := (Nat.log2_lt (by omega : i.natAbs ≠ 0)).mpr h1
    omega
  rw [if_neg (c := (i == 0) = true) (by simpa using hi), if_neg (c := (j == 0) = true) (by simp; omega), decide_eq_false (p := _ > _ + 150) (by omega), Bool.and_false]
def dFdiv : DR2 := dI CDivX fun i j => .int (i / j)
def dFdivS : DR2 := dI CDiv fun i j => .int (i / j)
def dMod : DR2 := dI (fun _ j => 0 < j) fun i j => .int (i % j)
def dPow : DR2 := dI CPow fun i j => .int (i ^ j.toNat)
def dShl : DR2 := dI CShl fun i j => .int (i * 2 ^ j.toNat)
def dShr : DR2 := dI (fun _ j => 0 ≤ j) fun i j => .int (i / 2 ^ j.toNat)
def dAnd : DR2 := dI0 fun i j => .int (Builtin.bitAnd i j)
def dOr : DR2 := dI0 fun i j => .int (Builtin.bitOr i j)
def dLt : DR2 := dI0 fun i j => .bl (decide (i < j))
def dLe : DR2 := dI0 fun i j => .bl (decide (i ≤ j))
def dGt : DR2 := dI0 fun i j => .bl (decide (j < i))
def dGe : DR2 := dI0 fun i j => .bl (decide (j ≤ i))
theorem od_addI : OD X (binaryOp .Add) dAddI := od_I0 op_add
theorem od_sub : OD X (binaryOp .Sub) dSub := od_I0 op_sub
theorem od_mulI : OD X (binaryOp .Mult) dMulI := od_I op_mulX
theorem od_fdiv : OD X (binaryOp .FloorDiv) dFdiv := od_I op_fdivX
theorem od_fdivS : OD X (binaryOp .FloorDiv) dFdivS := od_I op_fdiv
theorem od_mod : OD X (binaryOp .Mod) dMod := od_I op_mod
theorem od_pow : OD X (binaryOp .Pow) dPow := od_I op_pow
theorem od_shl : OD X (binaryOp .LShift) dShl := od_I op_shlW
theorem od_shr : OD X (binaryOp .RShift) dShr := od_I op_shr
theorem od_and : OD X (binaryOp .BitAnd) dAnd := od_I0 op_and
theorem od_or : OD X (binaryOp .BitOr) dOr := od_I0 op_or
theorem od_lt : OD X (compareOp .Lt) dLt := od_I0 op_lt
theorem od_le : OD X (compareOp .LtE) dLe := od_I0 op_le
theorem od_gt : OD X (compareOp .Gt) dGt := od_I0 op_gt
theorem od_ge : OD X (compareOp .GtE) dGe := od_I0 op_ge
def D.isN : D → Bool
  | .non => true
  | _ => false
def dIsN : DR2 := fun x y μ Q => y = .non ∧ Q (.bl x.isN) μ
theorem rp_non {K bx M H d} {x : V} (r : Rp K bx M H d x) : decide (x = .non) = d.isN := by
  cases d with
  | non => rw [show x = .non from r]; rfl
  | bl b => rw [show x = .bl b from r]; rfl
  | int b => rw [show x = .int b from r]; rfl
  | str b => rw [show x = .str b from r]; rfl
  | tup l => obtain ⟨a, xs, rfl, _⟩ := r; rfl
  | lst l => obtain ⟨a, xs, rfl, _⟩ := r; rfl
  | frz l => obtain ⟨a, xs, rfl, _⟩ := r; rfl
  | own l => exact (show False from r).elim
  | box i => obtain ⟨a, _, rfl⟩ := r; rfl
  | ty n => rw [show x = .ty n from r]; rfl
  | exc a dd f y => rw [show x = .ref a from r.1]; rfl
  | dct l => obtain ⟨a, rfl, _⟩ := r; rfl
theorem od_isN : OD X (compareOp .Is) dIsN := by
  refine ⟨_, op_isN, fun G M σ H σd μ x y dx dy Q R hK S rx ry q k => ?_⟩
  obtain ⟨rfl, q⟩ := q
  exact ⟨ry, k _ H _ μ S (by rw [rp_non rx]; rfl) q⟩
def dNotN : DR2 := fun x y μ Q => y = .non ∧ Q (.bl (!x.isN)) μ
theorem od_notN : OD X (compareOp .IsNot) dNotN := by
  refine ⟨_, op_notN, fun G M σ H σd μ x y dx dy Q R hK S rx ry q k => ?_⟩
  obtain ⟨rfl, q⟩ := q
  exact ⟨ry, k _ H _ μ S (by rw [rp_non rx]; rfl) q⟩
/-! unary -/
structure UD (X : Cx) (f : Value → Sem Value) (rd : D → Mem → (D → Mem → Prop) → Prop) : Prop where
  ex : ∃ r, UnR X f r ∧ ∀ (G : Gm) (M : Addr → Prop) (σ : St) (H : Hp) (σd : DSt) (μ : Mem) (x : V) (dx : D) (Q : D → Mem → Prop) (R : VK), G.K = X.K → SR G M σ H σd μ → Rp G.K G.bx M H dx x → rd dx μ Q →
    (∀ v H' d μ', SR G M σ H' σd μ' → Rp G.K G.bx M H' d v → Q d μ' → R v H') → r x H R
def dUn (rd : D → Mem → (D → Mem → Prop) → Prop) (ta : DTE) : DTE := fun σd μ Q => ta σd μ fun x μ1 => rd x μ1 Q
theorem de_un {op : UnaryOp} {rd} (ho : UD X (unaryOp op) rd) (ha : DE X a ta) : DE X (.UnaryOp op a pos) (dUn rd ta) := by
  obtain ⟨r, ho, hr⟩ := ho.ex
  obtain ⟨te, pa, ha⟩ := ha.ex
  refine ⟨_, pe_un ho pa, fun G M σ H σd μ Q R hK S hq k => ?_⟩
  exact ha G M σ H σd μ _ _ hK S hq fun v H1 d μ1 S1 r1 q1 => hr G M σ H1 σd μ1 _ _ _ _ hK S1 r1 q1 k
def dNeg : D → Mem → (D → Mem → Prop) → Prop := fun x μ Q => ∃ i, x = .int i ∧ Q (.int (-i)) μ
theorem ud_neg : UD X (unaryOp .USub) dNeg := by
  refine ⟨_, un_neg, fun G M σ H σd μ x dx Q R hK S rx q k => ?_⟩
  obtain ⟨i, rfl, q⟩ := q
  exact ⟨i, rx, k _ H _ μ S (rpI _) q⟩

/-! ### tests -/
def dAndT (t u : DTT) : DTT := fun σd μ Q => t σd μ fun c μ1 => if c = true then u σd μ1 Q else Q false μ1
def dOrT (t u : DTT) : DTT := fun σd μ Q => t σd μ fun c μ1 => if c = true then Q true μ1 else u σd μ1 Q
def dNotT (t : DTT) : DTT := fun σd μ Q => t σd μ fun c μ1 => Q (!c) μ1
variable {tA tB : DTT} {rest : List Expr}
theorem DW.dt (h : DW X e tA) : DT X e tA := by
  obtain ⟨te, p, h⟩ := h.ex
  exact ⟨_, p.pt, h⟩
theorem dw_and1 (ha : DT X a tA) : DW X (.BoolOp .And [a] pos) tA := by
  obtain ⟨te, p, h⟩ := ha.ex
  exact ⟨_, pw_and1 p, h⟩
theorem dw_or1 (ha : DT X a tA) : DW X (.BoolOp .Or [a] pos) tA := by
  obtain ⟨te, p, h⟩ := ha.ex
  exact ⟨_, pw_or1 p, h⟩
theorem dw_and (ha : DT X a tA) (hb : DW X (.BoolOp .And (b :: rest) pos) tB) : DW X (.BoolOp .And (a :: b :: rest) pos) (dAndT tA tB) := by
  obtain ⟨te, p, h⟩ := ha.ex
  obtain ⟨te', p', h'⟩ := hb.ex
  refine ⟨_, pw_and p p', fun G M σ H σd μ Q R hK S hq k => ?_⟩
  refine h G M σ H σd μ _ _ hK S hq fun c H1 μ1 S1 q1 => ?_
  cases c with
  | true => rw [if_pos rfl] at q1 ⊢; exact h' G M σ H1 σd μ1 _ _ hK S1 q1 k
  | false => rw [if_neg (by decide)] at q1 ⊢; exact k _ _ _ S1 q1
theorem dw_or (ha : DT X a tA) (hb : DW X (.BoolOp .Or (b :: rest) pos) tB) : DW X (.BoolOp .Or (a :: b :: rest) pos) (dOrT tA tB) := by
  obtain ⟨te, p, h⟩ := ha.ex
  obtain ⟨te', p', h'⟩ := hb.ex
  refine ⟨_, pw_or p p', fun G M σ H σd μ Q R hK S hq k => ?_⟩
  refine h G M σ H σd μ _ _ hK S hq fun c H1 μ1 S1 q1 => ?_
  cases c with
  | true => rw [if_pos rfl] at q1 ⊢; exact k _ _ _ S1 q1
  | false => rw [if_neg (by decide)] at q1 ⊢; exact h' G M σ H1 σd μ1 _ _ hK S1 q1 k
theorem dt_not (ha : DT X a tA) : DT X (.UnaryOp .Not a pos) (dNotT tA) := by
  obtain ⟨te, p, h⟩ := ha.ex
  refine ⟨_, pt_not p, fun G M σ H σd μ Q R hK S hq k => ?_⟩
  exact h G M σ H σd μ _ _ hK S hq fun c H1 μ1 S1 q1 => k _ _ _ S1 q1
def dIf (t : DTT) (ta tb : DTE) : DTE := fun σd μ Q => t σd μ fun c μ1 => if c = true then ta σd μ1 Q else tb σd μ1 Q
theorem de_ifExp (hc : DT X c tA) (ha : DE X a ta) (hb : DE X b tb) : DE X (.IfExp c a b pos) (dIf tA ta tb) := by
  obtain ⟨te, p, h⟩ := hc.ex
  obtain ⟨te1, p1, h1⟩ := ha.ex
  obtain ⟨te2, p2, h2⟩ := hb.ex
  refine ⟨_, pe_ifExp p p1 p2, fun G M σ H σd μ Q R hK S hq k => ?_⟩
  refine h G M σ H σd μ _ _ hK S hq fun c H1 μ1 S1 q1 => ?_
  cases c with
  | true => rw [if_pos rfl] at q1 ⊢; exact h1 G M σ H1 σd μ1 _ _ hK S1 q1 k
  | false => rw [if_neg (by decide)] at q1 ⊢; exact h2 G M σ H1 σd μ1 _ _ hK S1 q1 k
/-- and, or, not as values -/
def dAndV (ta tb : DTE) : DTE := fun σd μ Q => ta σd μ fun x μ1 => ∃ c, x = .bl c ∧ if c = true then tb σd μ1 Q else Q (.bl false) μ1
def dOrV (ta tb : DTE) : DTE := fun σd μ Q => ta σd μ fun x μ1 => ∃ c, x = .bl c ∧ if c = true then Q (.bl true) μ1 else tb σd μ1 Q
def dNotV (ta : DTE) : DTE := fun σd μ Q => ta σd μ fun x μ1 => ∃ c, x = .bl c ∧ Q (.bl (!c)) μ1
theorem de_one {op} (h : DE X a ta) : DE X (.BoolOp op [a] pos) ta := by
  obtain ⟨te, p, h⟩ := h.ex
  exact ⟨_, pe_one p, h⟩
theorem de_and (ha : DE X a ta) (hb : DE X (.BoolOp .And (b :: rest) pos) tb) : DE X (.BoolOp .And (a :: b :: rest) pos) (dAndV ta tb) := by
  obtain ⟨te, p, h⟩ := ha.ex
  obtain ⟨te', p', h'⟩ := hb.ex
  refine ⟨_, pe_and p p', fun G M σ H σd μ Q R hK S hq k => ?_⟩
  refine h G M σ H σd μ _ _ hK S hq fun v H1 d μ1 S1 r1 q1 => ?_
  obtain ⟨c, rfl, q1⟩ := q1
  refine ⟨c, r1, ?_⟩
  cases c with
  | true => rw [if_pos rfl] at q1 ⊢; exact h' G M σ H1 σd μ1 _ _ hK S1 q1 k
  | false => rw [if_neg (by decide)] at q1 ⊢; exact k _ _ _ _ S1 (rpB _) q1
theorem de_or (ha : DE X a ta) (hb : DE X (.BoolOp .Or (b :: rest) pos) tb) : DE X (.BoolOp .Or (a :: b :: rest) pos) (dOrV ta tb) := by
  obtain ⟨te, p, h⟩ := ha.ex
  obtain ⟨te', p', h'⟩ := hb.ex
  refine ⟨_, pe_or p p', fun G M σ H σd μ Q R hK S hq k => ?_⟩
  refine h G M σ H σd μ _ _ hK S hq fun v H1 d μ1 S1 r1 q1 => ?_
  obtain ⟨c, rfl, q1⟩ := q1
  refine ⟨c, r1, ?_⟩
  cases c with
  | true => rw [if_pos rfl] at q1 ⊢; exact k _ _ _ _ S1 (rpB _) q1
  | false => rw [if_neg (by decide)] at q1 ⊢; exact h' G M σ H1 σd μ1 _ _ hK S1 q1 k
theorem de_not (ha : DE X a ta) : DE X (.UnaryOp .Not a pos) (dNotV ta) := by
  obtain ⟨te, p, h⟩ := ha.ex
  refine ⟨_, pe_not p, fun G M σ H σd μ Q R hK S hq k => ?_⟩
  refine h G M σ H σd μ _ _ hK S hq fun v H1 d μ1 S1 r1 q1 => ?_
  obtain ⟨c, rfl, q1⟩ := q1
  exact ⟨c, r1, k _ _ _ _ S1 (rpB _) q1⟩
/-! chains a < b < c -/
def dChain (r r' : DR2) (ta tb tc : DTE) : DTE := fun σd μ Q => ta σd μ fun x μ1 => tb σd μ1 fun y μ2 => r x y μ2 fun z μ3 => ∃ k, z = .bl k ∧ if k = true then tc σd μ3 fun u μ4 => r' y u μ4 Q else Q (.bl false) μ3
theorem chain2 {te te' te'' : TE} {rd rd' : DR2} {r r' : R2}
    (ha : ∀ (G : Gm) (M : Addr → Prop) (σ : St) (H : Hp) (σd : DSt) (μ : Mem) (Q : D → Mem → Prop) (R : VK), G.K = X.K → SR G M σ H σd μ → ta σd μ Q → (∀ v H' d μ', SR G M σ H' σd μ' → Rp G.K G.bx M H' d v → Q d μ' → R v H') → te σ H R)
    (hb : ∀ (G : Gm) (M : Addr → Prop) (σ : St) (H : Hp) (σd : DSt) (μ : Mem) (Q : D → Mem → Prop) (R : VK), G.K = X.K → SR G M σ H σd μ → tb σd μ Q → (∀ v H' d μ', SR G M σ H' σd μ' → Rp G.K G.bx M H' d v → Q d μ' → R v H') → te' σ H R)
    (hc : ∀ (G : Gm) (M : Addr → Prop) (σ : St) (H : Hp) (σd : DSt) (μ : Mem) (Q : D → Mem → Prop) (R : VK), G.K = X.K → SR G M σ H σd μ → tc σd μ Q → (∀ v H' d μ', SR G M σ H' σd μ' → Rp G.K G.bx M H' d v → Q d μ' → R v H') → te'' σ H R)
    (hr : ∀ (G : Gm) (M : Addr → Prop) (σ : St) (H : Hp) (σd : DSt) (μ : Mem) (x y : V) (dx dy : D) (Q : D → Mem → Prop) (R : VK), G.K = X.K → SR G M σ H σd μ → Rp G.K G.bx M H dx x → Rp G.K G.bx M H dy y → rd dx dy μ Q →
      (∀ v H' d μ', SR G M σ H' σd μ' → Rp G.K G.bx M H' d v → Q d μ' → R v H') → r x y H R)
    (hr' : ∀ (G : Gm) (M : Addr → Prop) (σ : St) (H : Hp) (σd : DSt) (μ : Mem) (x y : V) (dx dy : D) (Q : D → Mem → Prop) (R : VK), G.K = X.K → SR G M σ H σd μ → Rp G.K G.bx M H dx x → Rp G.K G.bx M H dy y → rd' dx dy μ Q →
      (∀ v H' d μ', SR G M σ H' σd μ' → Rp G.K G.bx M H' d v → Q d μ' → R v H') → r' x y H R)
    (G : Gm) (M : Addr → Prop) (σ : St) (H : Hp) (σd : DSt) (μ : Mem) (Q : D → Mem → Prop) (R : VK) (hK : G.K = X.K) (S : SR G M σ H σd μ) (hq : dChain rd rd' ta tb tc σd μ Q)
    (k : ∀ v H' d μ', SR G M σ H' σd μ' → Rp G.K G.bx M H' d v → Q d μ' → R v H') : tChain r r' te te' te'' σ H R := by
  refine ha G M σ H σd μ _ _ hK S hq fun v H1 d μ1 S1 r1 q1 => ?_
  refine hb (G.pin v d) M σ H1 σd μ1 _ _ hK (S1.pin r1) q1 fun v2 H2 d2 μ2 S2 r2 q2 => ?_
  obtain ⟨S2', r1'⟩ := S2.unpin
  refine hr (G.pin v2 d2) M σ H2 σd μ2 _ _ _ _ _ _ hK (S2'.pin r2) r1' r2 q2 fun z H3 dz μ3 S3 r3 q3 => ?_
  obtain ⟨S3', r2'⟩ := S3.unpin
  obtain ⟨c, rfl, q3⟩ := q3
  refine ⟨c, r3, ?_⟩
  cases c with
  | false =>
    rw [if_neg (by decide)] at q3 ⊢
    exact k _ _ _ _ S3' (rpB _) q3
  | true =>
    rw [if_pos rfl] at q3 ⊢
    refine hc (G.pin v2 d2) M σ H3 σd μ3 _ _ hK (S3'.pin r2') q3 fun u H4 du μ4 S4 r4 q4 => ?_
    obtain ⟨S4', r2''⟩ := S4.unpin
    exact hr' G M σ H4 σd μ4 _ _ _ _ _ _ hK S4' r2'' r4 q4 k
theorem de_chain {op op' : CmpOp} {r r' : DR2} (ho : OD X (compareOp op) r) (ho' : OD X (compareOp op') r') (ha : DE X a ta) (hb : DE X b tb) (hc : DE X c tc)
    (hm : lastMarks [op, op'] [b, c] = false := by with_unfolding_all rfl) : DE X (.Compare a [op, op'] [b, c] pos) (dChain r r' ta tb tc) := by
  obtain ⟨s, ho, hr⟩ := ho.ex
  obtain ⟨s', ho', hr'⟩ := ho'.ex
  obtain ⟨te, pa, ha⟩ := ha.ex
  obtain ⟨te', pb, hb⟩ := hb.ex
  obtain ⟨te'', pc, hc⟩ := hc.ex
  exact ⟨_, pe_chain ho ho' pa pb pc hm, chain2 ha hb hc hr hr'⟩
theorem dt_chain {op op' : CmpOp} {r r' : DR2} (ho : OD X (compareOp op) r) (ho' : OD X (compareOp op') r') (ha : DE X a ta) (hb : DE X b tb) (hc : DE X c tc)
    (hm : lastMarks [op, op'] [b, c] = false := by with_unfolding_all rfl) : DT X (.Compare a [op, op'] [b, c] pos) (dTest (dChain r r' ta tb tc)) := by
  obtain ⟨s, ho, hr⟩ := ho.ex
  obtain ⟨s', ho', hr'⟩ := ho'.ex
  obtain ⟨te, pa, ha⟩ := ha.ex
  obtain ⟨te', pb, hb⟩ := hb.ex
  obtain ⟨te'', pc, hc⟩ := hc.ex
  refine ⟨_, pt_chain ho ho' pa pb pc hm, fun G M σ H σd μ Q R hK S hq k => ?_⟩
  refine chain2 ha hb hc hr hr' G M σ H σd μ _ _ hK S hq fun v H' d μ' S' r' q' => ?_
  obtain ⟨kb, rfl, q'⟩ := q'
  exact ⟨kb, r', k kb H' μ' S' q'⟩

/-! ### argument lists, displays, calls of built-ins -/
def dNil : DTA := fun _ μ Q => Q [] μ
def dCons (ta : DTE) (tr : DTA) : DTA := fun σd μ Q => ta σd μ fun x μ1 => tr σd μ1 fun xs μ2 => Q (x :: xs) μ2
variable {es : List Expr} {tr : DTA}
theorem da_nil : DA X [] dNil := ⟨_, pa_nil, fun G M σ H σd μ Q R hK S hq k => k [] H [] μ S rfl hq⟩
theorem da_cons (ha : DE X e t) (hr : DA X es tr) (hs : starEach (e :: es) X.env = (false, eval e X.env) :: starEach es X.env := by rfl) : DA X (e :: es) (dCons t tr) := by
  obtain ⟨te, p, h⟩ := ha.ex
  obtain ⟨te', p', h'⟩ := hr.ex
  refine ⟨_, pa_cons p p' hs, fun G M σ H σd μ Q R hK S hq k => ?_⟩
  refine h G M σ H σd μ _ _ hK S hq fun v H1 d μ1 S1 r1 q1 => ?_
  refine h' (G.pin v d) M σ H1 σd μ1 _ _ hK (S1.pin r1) q1 fun vs H2 ds μ2 S2 r2 q2 => ?_
  obtain ⟨S2', r1'⟩ := S2.unpin
  exact k _ _ (d :: ds) μ2 S2' ⟨v, vs, rfl, r1', r2⟩ q2
def dTup (t : DTA) : DTE := fun σd μ Q => t σd μ fun ds μ1 => ds.length ≤ sizeLine ∧ Q (.tup ds) μ1
def dLst (t : DTA) : DTE := fun σd μ Q => t σd μ fun ds μ1 => ds.length ≤ sizeLine ∧ Q (.lst ds) μ1
theorem de_tup {x1} (h : DA X es tr) : DE X (.Tuple es x1 pos) (dTup tr) := by
  obtain ⟨te, p, h⟩ := h.ex
  refine ⟨_, pe_tup p, fun G M σ H σd μ Q R hK S hq k => ?_⟩
  refine h G M σ H σd μ _ _ hK S hq fun vs H1 ds μ1 S1 r1 q1 => ?_
  exact ⟨by rw [r1.len]; exact q1.1, fun p hp => k _ _ _ _ (S1.new hp) (S1.newT hp r1) q1.2⟩
theorem de_lst (h : DA X es tr) : DE X (.List es pos) (dLst tr) := by
  obtain ⟨te, p, h⟩ := h.ex
  refine ⟨_, pe_lst p, fun G M σ H σd μ Q R hK S hq k => ?_⟩
  refine h G M σ H σd μ _ _ hK S hq fun vs H1 ds μ1 S1 r1 q1 => ?_
  exact ⟨by rw [r1.len]; exact q1.1, fun p hp => k _ _ _ _ (S1.new hp) (S1.newL hp r1) q1.2⟩
abbrev DRC := List D → Mem → (D → Mem → Prop) → Prop
structure CD (X : Cx) (f : Value) (rd : DRC) : Prop where
  ex : ∃ r, CallR X f r ∧ ∀ (G : Gm) (M : Addr → Prop) (σ : St) (H : Hp) (σd : DSt) (μ : Mem) (xs : List V) (ds : List D) (Q : D → Mem → Prop) (R : VK), G.K = X.K → SR G M σ H σd μ → Rps G.K G.bx M H ds xs → rd ds μ Q →
    (∀ v H' d μ', SR G M σ H' σd μ' → Rp G.K G.bx M H' d v → Q d μ' → R v H') → r xs H R
def dCB (rd : DRC) (t : DTA) : DTE := fun σd μ Q => t σd μ fun ds μ1 => rd ds μ1 Q
variable {x : Str} {p : Pos} {id T : String} {rd : DRC}
theorem de_callB (hc : CD X (.builtin id) rd) (hg : Gl X x) (hm : X.mg x = none) (hv : bootBuiltins x = some (.builtin id)) (ha : DA X (e :: es) tr) (hn : x ≠ "__name__" := by decide) (hdb : (x == ("__debug__" : Str)) = false := by decide)
    (he : starEach (e :: es) X.env = (false, eval e X.env) :: starEach es X.env := by rfl) (hpl : (backTo pos (starEach es X.env)).any (·.1) = false := by rfl) : DE X (.Call (.Name x p) (e :: es) [] pos) (dCB rd tr) := by
  obtain ⟨r, hc, hr⟩ := hc.ex
  obtain ⟨te, p, h⟩ := ha.ex
  refine ⟨_, pe_callB hc hg hm hv p hn hdb he hpl, fun G M σ H σd μ Q R hK S hq k => ?_⟩
  exact h G M σ H σd μ _ _ hK S hq fun vs H1 ds μ1 S1 r1 q1 => hr G M σ H1 σd μ1 _ _ _ _ hK S1 r1 q1 k
theorem de_callTy (hc : CD X (.type T) rd) (hg : Gl X x) (hm : X.mg x = none) (hv : bootBuiltins x = some (.type T)) (ha : DA X (e :: es) tr) (hn : x ≠ "__name__" := by decide) (hdb : (x == ("__debug__" : Str)) = false := by decide)
    (he : starEach (e :: es) X.env = (false, eval e X.env) :: starEach es X.env := by rfl) (hpl : (backTo pos (starEach es X.env)).any (·.1) = false := by rfl) : DE X (.Call (.Name x p) (e :: es) [] pos) (dCB rd tr) := by
  obtain ⟨r, hc, hr⟩ := hc.ex
  obtain ⟨te, p, h⟩ := ha.ex
  refine ⟨_, pe_callTy hc hg hm hv p hn hdb he hpl, fun G M σ H σd μ Q R hK S hq k => ?_⟩
  exact h G M σ H σd μ _ _ hK S hq fun vs H1 ds μ1 S1 r1 q1 => hr G M σ H1 σd μ1 _ _ _ _ hK S1 r1 q1 k
theorem CD.or {f : Value} {r r' : DRC} (h : CD X f r) (h' : CD X f r') : CD X f (fun x μ Q => r x μ Q ∨ r' x μ Q) := by
  obtain ⟨s, o, h⟩ := h.ex
  obtain ⟨s', o', h'⟩ := h'.ex
  refine ⟨_, o.or o', fun G M σ H σd μ x dx Q R hK S rx q k => ?_⟩
  rcases q with q | q
  · exact .inl (h G M σ H σd μ x dx Q R hK S rx q k)
  · exact .inr (h' G M σ H σd μ x dx Q R hK S rx q k)
theorem rps1 {K bx M H d} {xs : List V} (h : Rps K bx M H [d] xs) : ∃ v, xs = [v] ∧ Rp K bx M H d v := by
  obtain ⟨v, r, rfl, h1, h2⟩ := h
  cases (show r = [] from h2)
  exact ⟨v, rfl, h1⟩
theorem rps2 {K bx M H d d'} {xs : List V} (h : Rps K bx M H [d, d'] xs) : ∃ v v', xs = [v, v'] ∧ Rp K bx M H d v ∧ Rp K bx M H d' v' := by
  obtain ⟨v, r, rfl, h1, h2⟩ := h
  obtain ⟨v', rfl, h3⟩ := rps1 h2
  exact ⟨v, v', rfl, h1, h3⟩
def dAbs : DRC := fun ds μ Q => ∃ i, ds = [.int i] ∧ Q (.int (if i < 0 then -i else i)) μ
theorem cd_abs : CD X (.builtin "abs") dAbs := by
  refine ⟨_, call_abs, fun G M σ H σd μ xs ds Q R hK S r q k => ?_⟩
  obtain ⟨i, rfl, q⟩ := q
  obtain ⟨v, rfl, r1⟩ := rps1 r
  exact ⟨i, by rw [show v = .int i from r1], k _ _ _ _ S (rpI _) q⟩
def dMax2 : DRC := fun ds μ Q => ∃ i j, ds = [.int i, .int j] ∧ Q (.int (if j > i then j else i)) μ
theorem cd_max2 (hc : X.calm = true) : CD X (.builtin "max") dMax2 := by
  refine ⟨_, call_max2 hc, fun G M σ H σd μ xs ds Q R hK S r q k => ?_⟩
  obtain ⟨i, j, rfl, q⟩ := q
  obtain ⟨v, v', rfl, r1, r2⟩ := rps2 r
  exact ⟨i, j, by rw [show v = .int i from r1, show v' = .int j from r2], k _ _ _ _ S (rpI _) q⟩
def dMin2 : DRC := fun ds μ Q => ∃ i j, ds = [.int i, .int j] ∧ Q (.int (if j < i then j else i)) μ
theorem cd_min2 (hc : X.calm = true) : CD X (.builtin "min") dMin2 := by
  refine ⟨_, call_min2 hc, fun G M σ H σd μ xs ds Q R hK S r q k => ?_⟩
  obtain ⟨i, j, rfl, q⟩ := q
  obtain ⟨v, v', rfl, r1, r2⟩ := rps2 r
  exact ⟨i, j, by rw [show v = .int i from r1, show v' = .int j from r2], k _ _ _ _ S (rpI _) q⟩
def dInt1 : DRC := fun ds μ Q => (∃ i, ds = [.int i] ∧ Q (.int i) μ) ∨ ∃ k, ds = [.bl k] ∧ Q (.int (if k then 1 else 0)) μ
theorem cd_int : CD X (.type "int") dInt1 := by
  refine ⟨_, call_int1, fun G M σ H σd μ xs ds Q R hK S r q k => ?_⟩
  rcases q with ⟨i, rfl, q⟩ | ⟨i, rfl, q⟩
  · obtain ⟨v, rfl, r1⟩ := rps1 r
    exact .inl ⟨i, by rw [show v = .int i from r1], k _ _ _ _ S (rpI _) q⟩
  · obtain ⟨v, rfl, r1⟩ := rps1 r
    exact .inr ⟨i, by rw [show v = .bl i from r1], k _ _ _ _ S (rpI _) q⟩
/-- the items of what is a list or a tuple -/
def seqOf (μ : Mem) : D → Option (List D)
  | .lst l => some l
  | .frz l => some l
  | .tup l => some l
  | .box i => μ[i]?
  | _ => none
def lstOf (μ : Mem) : D → Option (List D)
  | .lst l => some l
  | .frz l => some l
  | .box i => μ[i]?
  | _ => none
/-- .. of a list that is tracked as such -/
def rawOf (μ : Mem) : D → Option (List D)
  | .lst l => some l
  | .box i => μ[i]?
  | _ => none
theorem sq_box {G : Gm} {M σ H σd μ} {i : Nat} {l : List D} {v : V} (S : SR G M σ H σd μ) (r : Rp G.K G.bx M H (.box i) v) (e : μ[i]? = some l) : ∃ a xs, v = .ref a ∧ G.bx[i]? = some a ∧ H a = some (.lst xs) ∧ Rps G.K G.bx M H l xs := by
  obtain ⟨a, e1, rfl⟩ := r
  obtain ⟨xs, h1, h2⟩ := S.box i a l e1 e
  exact ⟨a, xs, rfl, e1, h1, h2⟩
theorem sq_lst {G : Gm} {M σ H σd μ} {d : D} {l : List D} {v : V} (S : SR G M σ H σd μ) (r : Rp G.K G.bx M H d v) (e : lstOf μ d = some l) : ∃ a xs, v = .ref a ∧ SqL G.K H a xs ∧ Rps G.K G.bx M H l xs := by
  cases d with
  | lst l' =>
    obtain rfl : l' = l := Option.some.inj e
    obtain ⟨a, xs, rfl, o, r⟩ := r
    exact ⟨a, xs, rfl, o.sq, r⟩
  | frz l' =>
    obtain rfl : l' = l := Option.some.inj e
    obtain ⟨a, xs, rfl, o, r⟩ := r
    exact ⟨a, xs, rfl, o.sq, r⟩
  | box i =>
    obtain ⟨a, xs, rfl, _, h1, h2⟩ := sq_box S r e
    exact ⟨a, xs, rfl, SqL.of h1, h2⟩
  | _ => cases e
theorem sq_raw {G : Gm} {M σ H σd μ} {d : D} {l : List D} {v : V} (S : SR G M σ H σd μ) (r : Rp G.K G.bx M H d v) (e : rawOf μ d = some l) : ∃ a xs, v = .ref a ∧ H a = some (.lst xs) ∧ Rps G.K G.bx M H l xs := by
  cases d with
  | lst l' =>
    obtain rfl : l' = l := Option.some.inj e
    obtain ⟨a, xs, rfl, o, r⟩ := r
    exact ⟨a, xs, rfl, o.2, r⟩
  | box i =>
    obtain ⟨a, xs, rfl, _, h1, h2⟩ := sq_box S r e
    exact ⟨a, xs, rfl, h1, h2⟩
  | _ => cases e
theorem sq_seq {G : Gm} {M σ H σd μ} {d : D} {l : List D} {v : V} (S : SR G M σ H σd μ) (r : Rp G.K G.bx M H d v) (e : seqOf μ d = some l) : ∃ a xs, v = .ref a ∧ (SqL G.K H a xs ∨ SqT G.K H a xs) ∧ Rps G.K G.bx M H l xs := by
  cases d with
  | tup l' =>
    obtain rfl : l' = l := Option.some.inj e
    obtain ⟨a, xs, rfl, o, r⟩ := r
    exact ⟨a, xs, rfl, .inr o.sq, r⟩
  | lst l' =>
    obtain ⟨a, xs, h1, h2, h3⟩ := sq_lst S r (l := l) e
    exact ⟨a, xs, h1, .inl h2, h3⟩
  | frz l' =>
    obtain ⟨a, xs, h1, h2, h3⟩ := sq_lst S r (l := l) e
    exact ⟨a, xs, h1, .inl h2, h3⟩
  | box i =>
    obtain ⟨a, xs, h1, h2, h3⟩ := sq_lst S r (l := l) e
    exact ⟨a, xs, h1, .inl h2, h3⟩
  | _ => cases e
def dLen : DRC := fun ds μ Q => ∃ d l, ds = [d] ∧ seqOf μ d = some l ∧ Q (.int l.length) μ
theorem cd_len : CD X (.builtin "len") dLen := by
  refine ⟨_, call_len_seq, fun G M σ H σd μ xs ds Q R hK S r q k => ?_⟩
  obtain ⟨d, l, rfl, e, q⟩ := q
  obtain ⟨v, rfl, r1⟩ := rps1 r
  obtain ⟨a, xs, rfl, h, r'⟩ := sq_seq S r1 e
  rw [hK] at h
  exact ⟨a, xs, rfl, h, by rw [r'.len]; exact k _ _ _ _ S (rpI _) q⟩
end
end DL

set_option maxRecDepth 100000
namespace DL
open PySem PySem.Spec L2
section
variable {X : Cx} {e a b c : Expr} {t ta tb tc : DTE} {pos : Pos}
/-! ### subscripts -/
structure ID (X : Cx) (rd : DR2) : Prop where
  ex : ∃ r : R2, IxR X r ∧ ∀ (G : Gm) (M : Addr → Prop) (σ : St) (H : Hp) (σd : DSt) (μ : Mem) (x y : V) (dx dy : D) (Q : D → Mem → Prop) (R : VK), G.K = X.K → SR G M σ H σd μ → Rp G.K G.bx M H dx x → Rp G.K G.bx M H dy y → rd dx dy μ Q →
    (∀ v H' d μ', SR G M σ H' σd μ' → Rp G.K G.bx M H' d v → Q d μ' → R v H') → r x y H R
theorem de_ix {rd : DR2} (hr : ID X rd) (ha : DE X a ta) (hb : DE X b tb) (hs : PlainIx b := by exact fun _ _ => rfl) : DE X (.Subscript a b pos) (dOp rd ta tb) := by
  obtain ⟨r, ho, hr⟩ := hr.ex
  obtain ⟨te, pa, ha⟩ := ha.ex
  obtain ⟨te', pb, hb⟩ := hb.ex
  exact ⟨_, pe_ix ho pa pb hs, bin2 ha hb hr⟩
def dIx : DR2 := fun x y μ Q => ∃ l i d, seqOf μ x = some l ∧ y = .int i ∧ atI l i = some d ∧ Q d μ
theorem Rps.atI {K bx M H} {l : List D} {xs : List V} {i : Int} {d : D} (r : Rps K bx M H l xs) (e : L2.atI l i = some d) : ∃ v, L2.atI xs i = some v ∧ Rp K bx M H d v := by
  unfold L2.atI at e ⊢
  rw [r.len]
  cases q : ixN l.length i with
  | none => rw [q] at e; cases e
  | some j =>
    rw [q] at e
    exact r.get e
theorem id_ix : ID X dIx := by
  refine ⟨_, ix_list.or ix_tup, fun G M σ H σd μ x y dx dy Q R hK S rx ry q k => ?_⟩
  obtain ⟨l, i, d, e, rfl, e2, q⟩ := q
  obtain ⟨a, xs, rfl, h, r⟩ := sq_seq S rx e
  obtain ⟨v, e3, rv⟩ := r.atI e2
  rw [hK] at h
  rcases h with h | h
  · exact .inl ⟨a, xs, i, v, rfl, ry, h, e3, k _ _ _ _ S rv q⟩
  · exact .inr ⟨a, xs, i, v, rfl, ry, h, e3, k _ _ _ _ S rv q⟩
/-! ### slices -/
def cutD (xs : List D) (lo hi : Option Int) : List D := (xs.drop (HT.sIx xs.length 0 lo)).take (HT.sIx xs.length xs.length hi - HT.sIx xs.length 0 lo)
theorem Rps.cut {K bx M H} {l : List D} {xs : List V} (r : Rps K bx M H l xs) (lo hi : Option Int) : Rps K bx M H (cutD l lo hi) (cutV xs lo hi) := by
  unfold cutD cutV
  rw [r.len]
  exact (r.drop _).take _
abbrev DTO := DSt → Mem → (Option Int → Mem → Prop) → Prop
structure DO (X : Cx) (e : Option Expr) (t : DTO) : Prop where
  ex : ∃ te : TO, PO X e te ∧ ∀ (G : Gm) (M : Addr → Prop) (σ : St) (H : Hp) (σd : DSt) (μ : Mem) (Q : Option Int → Mem → Prop) (R : Option Int → Hp → Prop), G.K = X.K → SR G M σ H σd μ → t σd μ Q →
    (∀ b H' μ', SR G M σ H' σd μ' → Q b μ' → R b H') → te σ H R
def dNoPart : DTO := fun _ μ Q => Q none μ
def dPart (t : DTE) : DTO := fun σd μ Q => t σd μ fun x μ1 => ∃ i, x = .int i ∧ Q (some i) μ1
theorem do_none : DO X none dNoPart := ⟨_, po_none, fun G M σ H σd μ Q R hK S hq k => k _ _ _ S hq⟩
theorem do_some (h : DE X e t) : DO X (some e) (dPart t) := by
  obtain ⟨te, p, h⟩ := h.ex
  refine ⟨_, po_some p, fun G M σ H σd μ Q R hK S hq k => ?_⟩
  refine h G M σ H σd μ _ _ hK S hq fun v H1 d μ1 S1 r1 q1 => ?_
  obtain ⟨i, rfl, q1⟩ := q1
  exact ⟨i, r1, k _ _ _ S1 q1⟩
/-- the slice of what is a list (a new list), of a tuple (a tuple) -/
def dSl (te : DTE) (tl th : DTO) : DTE := fun σd μ Q => te σd μ fun x μ1 => tl σd μ1 fun l μ2 => th σd μ2 fun u μ3 => (∃ ds, lstOf μ3 x = some ds ∧ Q (.lst (cutD ds l u)) μ3) ∨ (∃ ds, x = .tup ds ∧ Q (.tup (cutD ds l u)) μ3)
theorem cut_all (xs : List V) (lo hi : Option Int) (h : HT.sIx xs.length 0 lo = 0 ∧ HT.sIx xs.length xs.length hi = xs.length) : cutV xs lo hi = xs := by
  unfold cutV
  rw [h.1, h.2, List.drop_zero, Nat.sub_zero, List.take_length]
theorem cutD_all (xs : List D) (lo hi : Option Int) (h : HT.sIx xs.length 0 lo = 0 ∧ HT.sIx xs.length xs.length hi = xs.length) : cutD xs lo hi = xs := by
  unfold cutD
  rw [h.1, h.2, List.drop_zero, Nat.sub_zero, List.take_length]
variable {lo hi : Option Expr} {tl th : DTO} {p2 : Pos}
theorem de_slice (he : DE X e t) (hl : DO X lo tl) (hu : DO X hi th) : DE X (.Subscript e (.Slice lo hi none p2) pos) (dSl t tl th) := by
  obtain ⟨te, p, he⟩ := he.ex
  obtain ⟨te1, p1, hl⟩ := hl.ex
  obtain ⟨te2, p2, hu⟩ := hu.ex
  refine ⟨_, pe_slice (sl_list.or sl_tupA) p p1 p2, fun G M σ H σd μ Q R hK S hq k => ?_⟩
  refine he G M σ H σd μ _ _ hK S hq fun v H1 d μ1 S1 r1 q1 => ?_
  refine hl (G.pin v d) M σ H1 σd μ1 _ _ hK (S1.pin r1) q1 fun b H2 μ2 S2 q2 => ?_
  refine hu (G.pin v d) M σ H2 σd μ2 _ _ hK S2 q2 fun u H3 μ3 S3 q3 => ?_
  obtain ⟨S3', r⟩ := S3.unpin
  rcases q3 with ⟨ds, e, q⟩ | ⟨ds, rfl, q⟩
  · obtain ⟨a, xs, rfl, h, rs⟩ := sq_lst S3' r e
    rw [hK] at h
    exact .inl ⟨a, xs, rfl, h, fun p hp => k _ _ _ _ (S3'.new hp) (S3'.newL hp (rs.cut _ _)) q⟩
  · obtain ⟨a, xs, rfl, h, rs⟩ := r
    refine .inr ⟨a, xs, rfl, by rw [← hK]; exact h.sq, fun hw => ?_, fun hw p hp => k _ _ _ _ (S3'.new hp) (S3'.newT hp (rs.cut _ _)) q⟩
    rw [cutD_all _ _ _ (by rw [← rs.len]; exact hw)] at q
    exact k (.ref a) H3 (.tup ds) μ3 S3' ⟨a, xs, rfl, h, rs⟩ q
/-- xs[::-1] of a list -/
def dRevL (t : DTE) : DTE := fun σd μ Q => t σd μ fun x μ1 => ∃ ds, lstOf μ1 x = some ds ∧ Q (.lst ds.reverse) μ1
theorem de_revL {k : Nat} {p1 p2 p3 : Pos} (he : DE X e t) : DE X (.Subscript e (.Slice none none (some (.UnaryOp .USub (.Constant (.int 1) k p1) p2)) p3) pos) (dRevL t) := by
  obtain ⟨te, p, he⟩ := he.ex
  refine ⟨_, pe_revL p, fun G M σ H σd μ Q R hK S hq k => ?_⟩
  refine he G M σ H σd μ _ _ hK S hq fun v H1 d μ1 S1 r1 q1 => ?_
  obtain ⟨ds, e, q⟩ := q1
  obtain ⟨a, xs, rfl, h, rs⟩ := sq_lst S1 r1 e
  rw [hK] at h
  exact ⟨a, xs, rfl, h, fun p hp => k _ _ _ _ (S1.new hp) (S1.newL hp rs.rev) q⟩
/-! ### + and * of sequences -/
def dCatL : DR2 := fun x y μ Q => ∃ l m, rawOf μ x = some l ∧ rawOf μ y = some m ∧ l.length + m.length ≤ sizeLine ∧ Q (.lst (l ++ m)) μ
theorem od_catL : OD X (binaryOp .Add) dCatL := by
  refine ⟨_, op_cat, fun G M σ H σd μ x y dx dy Q R hK S rx ry q k => ?_⟩
  obtain ⟨l, m, e1, e2, z, q⟩ := q
  obtain ⟨a, xs, rfl, h1, r1⟩ := sq_raw S rx e1
  obtain ⟨b, ys, rfl, h2, r2⟩ := sq_raw S ry e2
  exact ⟨a, b, xs, ys, rfl, rfl, h1, h2, by rw [r1.len, r2.len]; exact z, fun p hp => k _ _ _ _ (S.new hp) (S.newL hp (r1.app r2)) q⟩
def dCatT : DR2 := fun x y μ Q => ∃ l m, x = .tup l ∧ y = .tup m ∧ l.length + m.length ≤ sizeLine ∧ Q (.tup (l ++ m)) μ
theorem od_catT : OD X (binaryOp .Add) dCatT := by
  refine ⟨_, op_catA, fun G M σ H σd μ x y dx dy Q R hK S rx ry q k => ?_⟩
  obtain ⟨l, m, rfl, rfl, z, q⟩ := q
  obtain ⟨a, xs, rfl, h1, r1⟩ := rx
  obtain ⟨b, ys, rfl, h2, r2⟩ := ry
  refine ⟨a, b, xs, ys, rfl, rfl, by rw [← hK]; exact h1.sq, by rw [← hK]; exact h2.sq, by rw [r1.len, r2.len]; exact z, fun e => ?_, fun _ e => ?_, fun _ _ p hp => k _ _ _ _ (S.new hp) (S.newT hp (r1.app r2)) q⟩
  · subst e
    have : l = [] := List.length_eq_zero_iff.mp (by rw [← r1.len]; rfl)
    subst this
    exact k (.ref b) H (.tup m) μ S ⟨b, ys, rfl, h2, r2⟩ q
  · subst e
    have : m = [] := List.length_eq_zero_iff.mp (by rw [← r2.len]; rfl)
    subst this
    rw [List.append_nil] at q
    exact k (.ref a) H (.tup l) μ S ⟨a, xs, rfl, h1, r1⟩ q
def dCatS : DR2 := fun x y μ Q => ∃ i j, x = .str i ∧ y = .str j ∧ i.length + j.length ≤ sizeLine ∧ Q (.str (i ++ j)) μ
theorem od_catS : OD X (binaryOp .Add) dCatS := by
  refine ⟨_, op_add_str, fun G M σ H σd μ x y dx dy Q R hK S rx ry q k => ?_⟩
  obtain ⟨i, j, rfl, rfl, z, q⟩ := q
  exact ⟨i, j, rx, ry, z, k _ _ _ _ S (rpS _) q⟩
def dAdd : DR2 := fun x y μ Q => dAddI x y μ Q ∨ dCatL x y μ Q ∨ dCatT x y μ Q
theorem od_add : OD X (binaryOp .Add) dAdd := od_addI.or (od_catL.or od_catT)
theorem Rps.rep {K bx M H} {l : List D} {xs : List V} (r : Rps K bx M H l xs) : ∀ k : Nat, Rps K bx M H (List.replicate k l).flatten (List.replicate k xs).flatten
  | 0 => rfl
  | k + 1 => by
    rw [List.replicate_succ, List.replicate_succ, List.flatten_cons, List.flatten_cons]
    exact r.app (Rps.rep r k)
def dRepL : DR2 := fun x y μ Q => ∃ l k, rawOf μ x = some l ∧ y = .int k ∧ -(2 ^ 63) ≤ k ∧ k < 2 ^ 63 ∧ l.length * k.toNat ≤ sizeLine ∧ Q (.lst (List.replicate k.toNat l).flatten) μ
theorem od_repL : OD X (binaryOp .Mult) dRepL := by
  refine ⟨_, op_rep, fun G M σ H σd μ x y dx dy Q R hK S rx ry q k => ?_⟩
  obtain ⟨l, n, e1, rfl, z1, z2, z3, q⟩ := q
  obtain ⟨a, xs, rfl, h1, r1⟩ := sq_raw S rx e1
  exact ⟨a, n, xs, rfl, ry, h1, z1, z2, by rw [r1.len]; exact z3, fun p hp => k _ _ _ _ (S.new hp) (S.newL hp (r1.rep _)) q⟩
def dMul : DR2 := fun x y μ Q => dMulI x y μ Q ∨ dRepL x y μ Q
theorem od_mul : OD X (binaryOp .Mult) dMul := od_mulI.or od_repL
/-! ### data -/
mutual
def D.py : D → PyData
  | .non => .none
  | .bl b => .bool b
  | .int i => .int i
  | .str x => .str x
  | .tup l => .tuple (pys l)
  | .lst l => .list (pys l)
  | .own _ => .none
  | .frz l => .list (pys l)
  | .box _ => .none
  | .ty _ => .none
  | .exc _ _ _ _ => .none
  | .dct l => .dict (l.map fun p => (.str p.1, .int p.2))
def pys : List D → List PyData
  | [] => []
  | d :: l => d.py :: pys l
end
mutual
/-- no boxes in it -/
def D.flat : D → Bool
  | .non => true
  | .bl _ => true
  | .int _ => true
  | .str _ => true
  | .tup l => flats l
  | .lst l => flats l
  | .own _ => false
  | .frz l => flats l
  | .box _ => false
  | .ty _ => false
  | .exc _ _ _ _ => false
  | .dct _ => false
def flats : List D → Bool
  | [] => true
  | d :: l => d.flat && flats l
end
mutual
theorem Rp.dp {K bx M H} : ∀ (d : D) (v : V), Rp K bx M H d v → d.flat = true → Dp K H v d.py
  | .non, v, h, _ => by rw [show v = .non from h]; exact .non
  | .bl b, v, h, _ => by rw [show v = .bl b from h]; exact .bl b
  | .int b, v, h, _ => by rw [show v = .int b from h]; exact .int b
  | .str b, v, h, _ => by rw [show v = .str b from h]; exact .str b
  | .tup l, v, h, f => by
    obtain ⟨a, xs, rfl, o, r⟩ := h
    exact .tup o.sq (Rps.dp l xs r f)
  | .lst l, v, h, f => by
    obtain ⟨a, xs, rfl, o, r⟩ := h
    exact .lst o.sq (Rps.dp l xs r f)
  | .frz l, v, h, f => by
    obtain ⟨a, xs, rfl, o, r⟩ := h
    exact .lst o.sq (Rps.dp l xs r f)
  | .own l, v, h, f => nomatch f
  | .box l, v, h, f => nomatch f
  | .ty l, v, h, f => nomatch f
  | .exc _ _ _ _, v, h, f => nomatch f
  | .dct l, v, h, f => nomatch f
theorem Rps.dp {K bx M H} : ∀ (l : List D) (xs : List V), Rps K bx M H l xs → flats l = true → DpAll K H xs (pys l)
  | [], xs, h, _ => by rw [show xs = [] from h]; exact .nil
  | d :: l, xs, h, f => by
    obtain ⟨v, r, rfl, h1, h2⟩ := h
    simp only [flats, Bool.and_eq_true] at f
    exact .cons (Rp.dp d v h1 f.1) (Rps.dp l r h2 f.2)
end
def D.ok (d : D) : Prop := d.flat = true ∧ SeqAt.shaped d.py = true
def D.eqv (d e : D) : Bool := PyData.eqv d.py e.py
def dEq : DR2 := fun x y μ Q => (x.ok ∧ y.ok ∧ Q (.bl (x.eqv y)) μ) ∨ ∃ s t, x = .str s ∧ y = .str t ∧ Q (.bl (decide (s = t))) μ
def dNe : DR2 := fun x y μ Q => (x.ok ∧ y.ok ∧ Q (.bl (!x.eqv y)) μ) ∨ ∃ s t, x = .str s ∧ y = .str t ∧ Q (.bl (!decide (s = t))) μ
theorem v_str {s t : Str} : decide (V.str s = V.str t) = decide (s = t) := by
  by_cases h : s = t
  · subst h; simp
  · rw [decide_eq_false h, decide_eq_false fun e => h (V.str.inj e)]
theorem od_eq (hu : X.A.units + 64 < cLine) : OD X (compareOp .Eq) dEq := by
  refine ⟨_, (op_eqD hu).or op_eq, fun G M σ H σd μ x y dx dy Q R hK S rx ry q k => ?_⟩
  rcases q with ⟨o1, o2, q⟩ | ⟨s, t, rfl, rfl, q⟩
  · exact .inl ⟨dx.py, dy.py, by rw [← hK]; exact rx.dp _ _ o1.1, by rw [← hK]; exact ry.dp _ _ o2.1, o1.2, o2.2, k _ _ _ _ S (rpB _) q⟩
  · cases (show x = .str s from rx)
    cases (show y = .str t from ry)
    exact .inr ⟨rfl, by rw [v_str]; exact k _ _ _ _ S (rpB _) q⟩
theorem od_ne (hu : X.A.units + 64 < cLine) : OD X (compareOp .NotEq) dNe := by
  refine ⟨_, (op_neD hu).or op_ne, fun G M σ H σd μ x y dx dy Q R hK S rx ry q k => ?_⟩
  rcases q with ⟨o1, o2, q⟩ | ⟨s, t, rfl, rfl, q⟩
  · exact .inl ⟨dx.py, dy.py, by rw [← hK]; exact rx.dp _ _ o1.1, by rw [← hK]; exact ry.dp _ _ o2.1, o1.2, o2.2, k _ _ _ _ S (rpB _) q⟩
  · cases (show x = .str s from rx)
    cases (show y = .str t from ry)
    exact .inr ⟨rfl, by rw [v_str]; exact k _ _ _ _ S (rpB _) q⟩
/-! ### isinstance, list(), tuple(), sum, gcd -/
def D.tyn : D → Option String
  | .non => some "NoneType"
  | .bl _ => some "bool"
  | .int _ => some "int"
  | .str _ => some "str"
  | .tup _ => some "tuple"
  | .lst _ => some "list"
  | .own _ => none
  | .frz _ => some "list"
  | .box _ => some "list"
  | .ty _ => none
  | .exc _ _ _ _ => none
  | .dct _ => some "dict"
theorem tyn_is {G : Gm} {M σ H σd μ} {d : D} {v : V} {n : String} (S : SR G M σ H σd μ) (r : Rp G.K G.bx M H d v) (e : d.tyn = some n) : TyX G.K H v (.type n) := by
  cases d with
  | non => cases e; rw [show v = .non from r]; exact .base .non
  | bl b => cases e; rw [show v = .bl b from r]; exact .base (.bl b)
  | int b => cases e; rw [show v = .int b from r]; exact .base (.int b)
  | str b => cases e; rw [show v = .str b from r]; exact .base (.str b)
  | tup l =>
    cases e
    obtain ⟨a, xs, rfl, o, _⟩ := r
    rcases o with ⟨_, o | ⟨ob, o⟩⟩ | (o | ⟨o, its, n, h1, h2, _⟩)
    · exact .base (.tup o)
    · exact .fTuple o
    · exact absurd o rd_none
    · exact .kTuple h1 h2
  | lst l =>
    cases e
    obtain ⟨a, xs, rfl, o, _⟩ := r
    exact .base (.lst o.2)
  | frz l =>
    cases e
    obtain ⟨a, xs, rfl, o, _⟩ := r
    rcases o with ⟨_, ob, o⟩ | (o | ⟨o, its, n, h1, h2, _⟩)
    · exact .base (.frz o)
    · exact absurd o rd_none
    · exact .kList h1 h2
  | box i =>
    cases e
    obtain ⟨a, e1, rfl⟩ := r
    have hi := (List.getElem?_eq_some_iff.mp e1).1
    obtain ⟨xs, h, _⟩ := S.box i a (μ[i]'(by rw [S.blen]; exact hi)) e1 (List.getElem?_eq_getElem _)
    exact .base (.lst h)
  | own l => cases e
  | ty l => cases e
  | exc _ _ _ _ => cases e
  | dct l =>
    cases e
    obtain ⟨a, rfl, _, h⟩ := r
    exact .base (.dK h)
def dIsi : DRC := fun ds μ Q => ∃ d n m r, ds = [d, .ty m] ∧ d.tyn = some n ∧ kitB n m = some r ∧ Q (.bl r) μ
theorem cd_isi : CD X (.builtin "isinstance") dIsi := by
  refine ⟨_, call_isi, fun G M σ H σd μ xs ds Q R hK S r q k => ?_⟩
  obtain ⟨d, n, m, b, rfl, e1, e2, q⟩ := q
  obtain ⟨v, v', rfl, r1, r2⟩ := rps2 r
  have r2 : v' = .ty m := r2
  subst r2
  exact ⟨v, .ty m, .type n, .type m, b, rfl, .ty m, by rw [← hK]; exact tyn_is S r1 e1, kit_ty e2, k _ _ _ _ S (rpB _) q⟩
theorem de_tyName {x : Str} {n : String} {pos : Pos} (hg : Gl X x) (hm : X.mg x = none) (hv : bootBuiltins x = some (.type n)) (hn : x ≠ "__name__" := by decide) (hd : (x == ("__debug__" : Str)) = false := by decide) : DE X (.Name x pos) (dC (.ty n)) :=
  de_c (v := .ty n) (pe_bltn hg hm hv rfl hn hd) fun _ _ _ _ => rfl
def dListOf : DRC := fun ds μ Q => ∃ d l, ds = [d] ∧ seqOf μ d = some l ∧ Q (.lst l) μ
theorem cd_list : CD X (.type "list") dListOf := by
  refine ⟨_, call_list_of, fun G M σ H σd μ xs ds Q R hK S r q k => ?_⟩
  obtain ⟨d, l, rfl, e, q⟩ := q
  obtain ⟨v, rfl, r1⟩ := rps1 r
  obtain ⟨a, xs, rfl, h, r'⟩ := sq_seq S r1 e
  rw [hK] at h
  exact ⟨a, xs, rfl, h, fun p hp => k _ _ _ _ (S.new hp) (S.newL hp r') q⟩
def dTupleOf : DRC := fun ds μ Q => ∃ d l, ds = [d] ∧ lstOf μ d = some l ∧ Q (.tup l) μ
theorem cd_tuple : CD X (.type "tuple") dTupleOf := by
  refine ⟨_, call_tuple_of, fun G M σ H σd μ xs ds Q R hK S r q k => ?_⟩
  obtain ⟨d, l, rfl, e, q⟩ := q
  obtain ⟨v, rfl, r1⟩ := rps1 r
  obtain ⟨a, xs, rfl, h, r'⟩ := sq_lst S r1 e
  rw [hK] at h
  exact ⟨a, xs, rfl, .inl ⟨h, fun p hp => k _ _ _ _ (S.new hp) (S.newT hp r') q⟩⟩
def dSum : DRC := fun ds μ Q => ∃ (d : D) (ns : List Int), ds = [d] ∧ lstOf μ d = some (ns.map D.int) ∧ Q (.int ns.sum) μ
theorem cd_sum (hc : X.calm = true) : CD X (.builtin "sum") dSum := by
  refine ⟨_, cr_sum hc, fun G M σ H σd μ xs ds Q R hK S r q k => ?_⟩
  obtain ⟨d, ns, rfl, e, q⟩ := q
  obtain ⟨v, rfl, r1⟩ := rps1 r
  obtain ⟨a, xs, rfl, h, r'⟩ := sq_lst S r1 e
  rw [hK, r'.ints] at h
  exact ⟨a, ns, rfl, h, k _ _ _ _ S (rpI _) q⟩
/-! ### repr -/
/-- what repr can show: data, of ints below 2 ^ 1920, not too long -/
def D.shw (d : D) : Prop := d.flat = true ∧ d.py.showable = true ∧ d.py.hasDict = false ∧ d.py.depth ≤ 50 ∧ d.py.shown.length ≤ sizeLine
def dRepr : DRC := fun ds μ Q => ∃ d, ds = [d] ∧ d.shw ∧ Q (.str d.py.shown) μ
end
end DL

set_option maxRecDepth 100000
namespace DL
open PySem PySem.Spec PyProof.Rows L2
/-! ### repr -/
mutual
theorem dp_hd {K : PySem.W.Frag} {H : Hp} : ∀ (d : PyData) (v : V), Dp K H v d → d.hasDict = false
  | .none, _, _ => rfl
  | .bool _, _, _ => rfl
  | .int _, _, _ => rfl
  | .str _, _, _ => rfl
  | .tuple l, _, h => by
    cases h with
    | tup _ ha => simp only [PyData.hasDict]; exact dps_hd l _ ha
  | .list l, _, h => by
    cases h with
    | lst _ ha => simp only [PyData.hasDict]; exact dps_hd l _ ha
  | .dict _, _, h => by cases h
theorem dps_hd {K : PySem.W.Frag} {H : Hp} : ∀ (l : List PyData) (vs : List V), DpAll K H vs l → PyData.hasDictAll l = false
  | [], _, _ => rfl
  | d :: l, _, h => by
    cases h with
    | cons h1 h2 => simp only [PyData.hasDictAll, dp_hd d _ h1, dps_hd l _ h2]; rfl
end
section
variable {X : Cx}
theorem call_reprD (hg : X.A.guards = some []) (hu : X.A.units + 64 < cLine) : CallR X (.builtin "repr") (fun xs H Q => ∃ (v : V) (d : D), xs = [v] ∧ Dp X.K H v d.py ∧ d.py.showable = true ∧ d.py.depth ≤ 50 ∧ d.py.shown.length ≤ sizeLine ∧ Q (.str d.py.shown) H) := by
  intro pins s σ H xs us Q I r h
  obtain ⟨v, d, rfl, dp, hs, hd, hz, q⟩ := h
  obtain ⟨u, rfl, rv⟩ := Vals.one r
  obtain ⟨as, rd⟩ := Dp.reads I d.py v u dp rv
  cases hdd : d.py with
  | none =>
    rw [hdd] at rd q
    cases rd
    exact PySem.P.repr_of_none ⟨.str _, H, I.tok _, ⟨_, rfl⟩, q⟩
  | bool b =>
    rw [hdd] at rd q
    cases rd
    exact PySem.P.repr_of_bool ⟨.str _, H, I.tok _, ⟨_, by simp only [PyData.shown]; rfl⟩, q⟩
  | int i =>
    rw [hdd] at rd q hs
    cases rd
    exact PySem.P.repr_of_int (by simpa [PyData.showable] using hs) ⟨.str _, H, I.tok _, ⟨_, by simp only [PyData.shown]; rfl⟩, q⟩
  | str z =>
    rw [hdd] at rd q hz
    cases rd
    exact PySem.P.repr_of_str ⟨.str _, H, I.tok _, ⟨_, by simp only [PyData.shown]; rfl⟩, q⟩ (by simpa [PyData.shown] using hz)
  | list l =>
    have hno := dp_hd _ _ dp
    rw [hdd] at rd q hs hd hz hno
    cases rd
    rename_i h1 h2 h3 h4
    refine repr_of_reads' (.list h1 h2 h3 h4) hs (fun e => by rw [hno] at e; cases e) hg (by omega) (fun _ _ e => e) (fun h' u tk hk => ?_) hz
    exact ⟨.str _, H, I.kept hk, ⟨_, rfl⟩, q⟩
  | tuple l =>
    have hno := dp_hd _ _ dp
    rw [hdd] at rd q hs hd hz hno
    cases rd
    rename_i h1 h2 h3 h4
    refine repr_of_reads' (.tuple h1 h2 h3 h4) hs (fun e => by rw [hno] at e; cases e) hg (by omega) (fun _ _ e => e) (fun h' u tk hk => ?_) hz
    exact ⟨.str _, H, I.kept hk, ⟨_, rfl⟩, q⟩
  | dict l =>
    have hno := dp_hd _ _ dp
    rw [hdd] at hno
    cases hno
theorem cd_repr (hg : X.A.guards = some []) (hu : X.A.units + 64 < cLine) : CD X (.builtin "repr") dRepr := by
  refine ⟨_, call_reprD hg hu, fun G M σ H σd μ xs ds Q R hK S r q k => ?_⟩
  obtain ⟨d, rfl, ⟨h1, h2, h3, h4, h5⟩, q⟩ := q
  obtain ⟨v, rfl, r1⟩ := rps1 r
  exact ⟨v, d, rfl, by rw [← hK]; exact r1.dp _ _ h1, h2, h4, h5, k _ _ _ _ S (rpS _) q⟩
end

/-! ### a def's promise where no repr is under way -/
structure FnG (P : Program) (w : World) (K : PySem.W.Frag) (mg : Str → Option Value) (base : Heap) (k : Nat) (f : Addr) (fd : FuncData) (ps : List Str) (sp : Sp) : Prop where
  cnt : ∀ vs H Q E, sp vs H Q E → vs.length = ps.length
  does : ∀ (A : Around) (out : List Env) (s : Shared) (H : Hp) (as : Args) (us : List Value) (vs : List V) (Q : VK) (E : XK), A.guards = some [] → Room k A → Env0 P w K mg base A out s H → BindsTo s fd as (ps.zip us) → Vals vs us → sp vs H Q E →
    codeAny (model P w) A (.call (.ref f) as) (CR CX0 out P w H s Q E) s
theorem FnG.imp {P w K mg base k f fd ps} {sp sp' : Sp} (F : FnG P w K mg base k f fd ps sp) (h : ∀ vs H Q E, sp' vs H Q E → sp vs H Q E) : FnG P w K mg base k f fd ps sp' :=
  ⟨fun vs H Q E q => F.cnt vs H Q E (h _ _ _ _ q), fun A out s H as us vs Q E hg hr he hb hv hs => F.does A out s H as us vs Q E hg hr he hb hv (h _ _ _ _ hs)⟩
theorem FnG.up {P w K mg base j k f fd ps} {sp : Sp} (F : FnG P w K mg base j f fd ps sp) (h : j ≤ k) : FnG P w K mg base k f fd ps sp :=
  ⟨F.cnt, fun A out s H as us vs Q E hg hr => F.does A out s H as us vs Q E hg (hr.mono h)⟩
section
variable {P : Program} {w : World} {K : PySem.W.Frag} {mg : Str → Option Value} {base : Heap}
/-- a def by its body -/
theorem fnG_of {x qual : Str} {st : Stmt} {f : Addr} {fd : FuncData} {N ps : List Str} {k : Nat} {sp : Sp} (F : Fun K x qual st f fd) (S : FnScope N ps (defScope st)) (cnt : ∀ vs H Q E, sp vs H Q E → vs.length = ps.length)
    (bd : ∀ (cdv : Value) (A : Around) (out : List Env) (s : Shared) (H : Hp) (vs : List V) (Q : VK) (E : XK), A.guards = some [] → Room k (A.deeper (envOfC qual (defScope st) s.heap.objs.size f cdv)) → sp vs H Q E →
      ∃ t, PSs (cxOf CX0 P w K mg base N qual (defScope st) f cdv A out s H E).nox (defBody st) t ∧ t { nx := fun _ H' => Q .non H', rt := Q } (start N vs) H) : FnG P w K mg base (k + 1) f fd ps sp := by
  obtain ⟨oc, od, kV, doc, pm, an, cdv, ct, osl, rfl, lk, hcd⟩ := F.ex
  refine ⟨cnt, ?_⟩
  intro A out s H as us vs Q E hg hr e0 hb r hsp
  have n1 := cnt _ _ _ _ hsp
  have kin : K.In s.heap := e0.mod.kin.keeps fun b o e => (e0.bs b o e).1
  have lim : s.heap.NoLimit := e0.mod.nolimit.keeps fun b o e => (e0.bs b o e).1
  refine codeAny_call_function hr.depth (kin _ _ lk) rfl S.co S.gen rfl (PySem.W.codeRec_of kin hcd) ?_
  refine hb _ _ _ _ ?_
  refine wpAny_newFunctionEnv_cells S.kind (fun y hy => ?kinds) (fun env he s1 x => ?go)
  case kinds =>
    obtain ⟨n, v⟩ := y
    cases S.par n (List.of_mem_zip hy).1 with
    | inl q => exact Or.inl q
    | inr q => exact Or.inr ⟨q, PySem.W.cellsFrom_some _ _ _ (Or.inl q)⟩
  case go =>
    subst he
    refine ⟨lim.keeps x.toInCall.keep, ?_⟩
    apply codeAny_func
    obtain ⟨t, ht, hq⟩ := bd cdv A out s H vs Q E hg (hr.deeper _) hsp
    have I := inv_start (CX := CX0) (P := P) (w := w) (K := K) (mg := mg) (base := base) (E := E) S hr.hd e0 n1 r x
    have run := ht.nox.run [] s1 (start N vs) H _ I hq
    refine wpAny_mono run ?_ (fun e s' hs => hs)
    intro fl s' hs
    have fin : ∀ (σ' : List (Option V)) (H' : Hp) (v : V) (u : Value), Inv (cxOf CX0 P w K mg base N qual (defScope st) f cdv A out s H E) [] σ' H' s' → RelV v u → Q v H' → CE out P w H s Q u s' := by
      intro σ' H' v u J rv q
      exact ⟨v, H', J.os, J.bare, J.base, J.hok, rv, q⟩
    match fl, hs with
    | .ret u, ⟨v, σ', H', J, rv, q⟩ => exact fin σ' H' v u J rv q
    | .next, ⟨σ', H', J, q⟩ => exact fin σ' H' .non .none J rfl q
    | .brk, ⟨_, _, _, q⟩ => exact q.elim
    | .cont, ⟨_, _, _, q⟩ => exact q.elim
end
section
variable {X : Cx} {k : Nat} {f : Addr} {fd : FuncData} {ps : List Str} {sp : Sp} {x : Str} {p pos : Pos} {e : Expr} {es : List Expr} {t : TA}
theorem go_fnG {pins : List (Addr × Obj)} {σ : List (Option V)} {H : Hp} {s : Shared} {Q : VK} {us : List Value} {vs : List V} (F : FnG X.prog X.w X.K X.mg X.base k f fd ps sp) (hg : X.A.guards = some []) (hr : Room k X.A) (hb : Binds X.K fd ps [])
    (I : Inv X pins σ H s) (r : Vals vs us) (h : sp vs H Q E0) : wpAny (model X.prog X.w) X.A (call (.ref f) us) (EP X pins σ Q) X.xe s := by
  have n1 : (us ++ []).length = ps.length := by rw [List.append_nil, ← r.length]; exact F.cnt _ _ _ _ h
  have bt := hb s us I.kIn n1
  rw [List.append_nil] at bt
  apply wpAny_call
  refine codeAny_mono (F.does X.A X.stack s H ⟨us, []⟩ us vs Q E0 hg hr I.env0 bt r h) ?_
  intro res s' hq
  match res, hq with
  | .ok (.ret u), hq => exact I.after hq
  | .ok .next, hq => exact (show False from hq).elim
  | .ok .brk, hq => exact (show False from hq).elim
  | .ok .cont, hq => exact (show False from hq).elim
  | .error ex, hq => exact (show False from hq).elim
theorem pe_callG (F : FnG X.prog X.w X.K X.mg X.base k f fd ps sp) (hg : X.A.guards = some []) (hr : Room k X.A) (gl : Gl X x) (hm : X.mg x = some (.ref f)) (hk : PySem.W.keepIn X.K (.ref f) = true) (hb : Binds X.K fd ps [])
    (ha : PA X (e :: es) t) (hdb : (x == ("__debug__" : Str)) = false := by decide) (he : starEach (e :: es) X.env = (false, eval e X.env) :: starEach es X.env := by rfl) (hpl : (backTo pos (starEach es X.env)).any (·.1) = false := by rfl) :
    PE X (.Call (.Name x p) (e :: es) [] pos) (fun σ H Q => t σ H fun vs H1 => sp vs H1 Q E0) := by
  constructor
  intro pins s σ H Q I h
  apply wpAny_Call_Name_kw
  apply ld_glob I gl hm _ hdb
  apply PySem.W.callWith_K (h₀ := X.base) I.ok.mod.kin hk _ he hpl
  refine thn (ha.run pos pins s σ H _ I h) ?_
  rintro us s1 ⟨vs, H1, I1, r, q⟩
  exact ⟨I1.kIn, go_fnG F hg hr hb I1 r q⟩
end
end DL

set_option maxRecDepth 100000
namespace DL
open PySem PySem.Spec L2
section
variable {X : Cx} {e a b c : Expr} {t ta tb tc : DTE} {pos : Pos}
/-! ### one reading for every context -/
def liftE (K : PySem.W.Frag) (t : DTE) : TE := fun σ H R => ∃ (G : Gm) (M : Addr → Prop) (σd : DSt) (μ : Mem) (Q : D → Mem → Prop), G.K = K ∧ SR G M σ H σd μ ∧ t σd μ Q ∧ ∀ v H' d μ', SR G M σ H' σd μ' → Rp G.K G.bx M H' d v → Q d μ' → R v H'
theorem DE.lift (h : DE X e t) : PE X e (liftE X.K t) := by
  obtain ⟨te, p, h⟩ := h.ex
  refine ⟨fun pins s σ H R I hw => p.run pins s σ H R I ?_⟩
  obtain ⟨G, M, σd, μ, Q, hK, S, q, k⟩ := hw
  exact h G M σ H σd μ Q R hK S q k
def liftT (K : PySem.W.Frag) (t : DTT) : TT := fun σ H R => ∃ (G : Gm) (M : Addr → Prop) (σd : DSt) (μ : Mem) (Q : Bool → Mem → Prop), G.K = K ∧ SR G M σ H σd μ ∧ t σd μ Q ∧ ∀ b H' μ', SR G M σ H' σd μ' → Q b μ' → R b H'
theorem DT.lift {t : DTT} (h : DT X e t) : PT X e (liftT X.K t) := by
  obtain ⟨te, p, h⟩ := h.ex
  refine ⟨fun pins s σ H R I hw => p.run pins s σ H R I ?_⟩
  obtain ⟨G, M, σd, μ, Q, hK, S, q, k⟩ := hw
  exact h G M σ H σd μ Q R hK S q k

/-! ### targets -/
abbrev DTG := D → DSt → Mem → (DSt → Mem → Prop) → Prop
abbrev DTGs := List D → DSt → Mem → (DSt → Mem → Prop) → Prop
structure DG (X : Cx) (tg : Expr) (t : DTG) : Prop where
  ex : ∃ g : TG, PG X tg g ∧ ∀ (G : Gm) (M : Addr → Prop) (σ : St) (H : Hp) (σd : DSt) (μ : Mem) (d : D) (v : V) (Q : DSt → Mem → Prop) (R : St → Hp → Prop), G.K = X.K → SR G M σ H σd μ → Rp G.K G.bx M H d v → t d σd μ Q →
    (∀ σ' H' σd' μ', SR G M σ' H' σd' μ' → Q σd' μ' → R σ' H') → g v σ H R
structure DGs (X : Cx) (tg : List Expr) (t : DTGs) : Prop where
  ex : ∃ g : TGs, PGs X tg g ∧ ∀ (G : Gm) (M : Addr → Prop) (σ : St) (H : Hp) (σd : DSt) (μ : Mem) (ds : List D) (vs : List V) (Q : DSt → Mem → Prop) (R : St → Hp → Prop), G.K = X.K → SR G M σ H σd μ → Rps G.K G.bx M H ds vs → t ds σd μ Q →
    (∀ σ' H' σd' μ', SR G M σ' H' σd' μ' → Q σd' μ' → R σ' H') → g vs σ H R
theorem SR.set {G : Gm} {M : Addr → Prop} {σ : St} {H : Hp} {σd : DSt} {μ : Mem} {d : D} {v : V} (S : SR G M σ H σd μ) (i : Nat) (r : Rp G.K G.bx M H d v) : SR G M (σ.set i (some v)) H (σd.set i (some d)) μ := by
  have no : ∀ l, d ≠ .own l := fun l e => by subst e; exact r
  refine ⟨by rw [List.length_set, List.length_set]; exact S.len, fun j d' e => ?_, fun j j' p l l' e1 e2 e3 e4 => ?_, S.blen, S.box, S.keep, S.m0, S.fr, S.mt, S.nd, S.bm, S.m0t⟩
  · by_cases hj : j = i
    · subst hj
      have hl : j < σd.length := by
        have := (List.getElem?_eq_some_iff.mp e).1
        rwa [List.length_set] at this
      rw [List.getElem?_set_self hl] at e
      cases e
      exact ⟨v, by rw [List.getElem?_set_self (by rw [S.len]; exact hl)], .of r⟩
    · rw [List.getElem?_set_ne (Ne.symm hj)] at e
      obtain ⟨v', e1, r'⟩ := S.slot j d' e
      exact ⟨v', by rw [List.getElem?_set_ne (Ne.symm hj)]; exact e1, r'⟩
  · have hn : ∀ {j : Nat} {l : List D}, (σd.set i (some d))[j]? = some (some (.own l)) → j ≠ i := fun {j l} e z => by
      subst z
      have hl : j < σd.length := by
        have := (List.getElem?_eq_some_iff.mp e).1
        rwa [List.length_set] at this
      rw [List.getElem?_set_self hl] at e
      cases e
      exact no _ rfl
    have n1 := hn e1
    have n2 := hn e2
    rw [List.getElem?_set_ne (Ne.symm n1)] at e1 e3
    rw [List.getElem?_set_ne (Ne.symm n2)] at e2 e4
    exact S.dist j j' p l l' e1 e2 e3 e4
def dgName (i : Nat) : DTG := fun d σd μ Q => Q (σd.set i (some d)) μ
theorem dg_name {i : Nat} (h : PG X e (gName i)) : DG X e (dgName i) := by
  refine ⟨_, h, fun G M σ H σd μ d v Q R hK S r q k => ?_⟩
  exact k _ _ _ _ (S.set i r) q
def dgNil : DTGs := fun ds σd μ Q => ds = [] ∧ Q σd μ
def dgCons (t : DTG) (u : DTGs) : DTGs := fun ds σd μ Q => ∃ d r, ds = d :: r ∧ t d σd μ fun σ' μ' => u r σ' μ' Q
theorem dgs_nil : DGs X [] dgNil := by
  refine ⟨_, pgs_nil, fun G M σ H σd μ d v Q R hK S r q k => ?_⟩
  obtain ⟨rfl, q⟩ := q
  exact ⟨r, k _ _ _ _ S q⟩
def Gm.pins' (G : Gm) : List D → List V → Gm
  | d :: ds, v :: vs => (G.pins' ds vs).pin v d
  | _, _ => G
theorem SR.pinsAll {G : Gm} {M : Addr → Prop} {σ : St} {H : Hp} {σd : DSt} {μ : Mem} : ∀ {ds : List D} {vs : List V}, SR G M σ H σd μ → Rps G.K G.bx M H ds vs → SR (G.pins' ds vs) M σ H σd μ ∧ (G.pins' ds vs).K = G.K ∧ (G.pins' ds vs).bx = G.bx
  | [], vs, S, r => ⟨by cases vs <;> exact S, by cases vs <;> rfl, by cases vs <;> rfl⟩
  | d :: ds, vs, S, r => by
    obtain ⟨v, vr, rfl, h1, h2⟩ := r
    obtain ⟨S', hK, hb⟩ := SR.pinsAll (ds := ds) (vs := vr) S h2
    exact ⟨S'.pin (by rw [hK, hb]; exact h1), hK, hb⟩
theorem SR.unpinsAll {G : Gm} {M : Addr → Prop} {σ : St} {H : Hp} {σd : DSt} {μ : Mem} : ∀ {ds : List D} {vs : List V}, vs.length = ds.length → SR (G.pins' ds vs) M σ H σd μ → SR G M σ H σd μ ∧ Rps G.K G.bx M H ds vs ∧ (G.pins' ds vs).K = G.K ∧ (G.pins' ds vs).bx = G.bx
  | [], [], _, S => ⟨S, rfl, rfl, rfl⟩
  | [], _ :: _, h, _ => nomatch h
  | _ :: _, [], h, _ => nomatch h
  | d :: ds, v :: vs, h, S => by
    obtain ⟨S', r⟩ := SR.unpin (G := G.pins' ds vs) S
    obtain ⟨S'', rs, hK, hb⟩ := SR.unpinsAll (ds := ds) (vs := vs) (by simpa using h) S'
    rw [hK, hb] at r
    exact ⟨S'', ⟨v, vs, rfl, r, rs⟩, hK, hb⟩
theorem dgs_cons {es : List Expr} {t : DTG} {u : DTGs} (h1 : DG X e t) (h2 : DGs X es u) (ha : ∀ (g1 : TG) (g2 : TGs), PG X e g1 → PGs X es g2 → PGs X (e :: es) (gCons g1 g2) := by exact fun _ _ a b => pgs_cons a b) : DGs X (e :: es) (dgCons t u) := by
  obtain ⟨g, p, h⟩ := h1.ex
  obtain ⟨g', p', h'⟩ := h2.ex
  refine ⟨_, ha _ _ p p', fun G M σ H σd μ ds vs Q R hK S r q k => ?_⟩
  obtain ⟨d, dr, rfl, q⟩ := q
  obtain ⟨v, vr, rfl, r1, r2⟩ := r
  refine ⟨v, vr, rfl, ?_⟩
  have hl : vr.length = dr.length := r2.len
  obtain ⟨S', eK, eb⟩ := S.pinsAll r2
  refine h (G.pins' dr vr) M σ H σd μ d v _ _ (by rw [eK]; exact hK) S' (by rw [eK, eb]; exact r1) q fun σ' H' σd' μ' S2 q2 => ?_
  obtain ⟨S3, r3, _, _⟩ := S2.unpinsAll hl
  exact h' G M σ' H' σd' μ' dr vr Q R hK S3 r3 q2 k
/-- a, b, .. of a tuple or a list with so many items -/
def dgSeq (n : Nat) (t : DTGs) : DTG := fun d σd μ Q => ∃ l, seqOf μ d = some l ∧ l.length = n ∧ t l σd μ Q
theorem pg_or {tg : Expr} {g g' : TG} (h : PG X tg g) (h' : PG X tg g') : PG X tg (fun v σ H Q => g v σ H Q ∨ g' v σ H Q) := by
  refine ⟨fun pins s σ H x v Q I r q => ?_⟩
  rcases q with q | q
  · exact h.run pins s σ H x v Q I r q
  · exact h'.run pins s σ H x v Q I r q
theorem dg_seq {es : List Expr} {k : Nat} {t : DTGs} {n : Nat} (hc : X.calm = true) (h : DGs X es t)
    (hp : ∀ g : TGs, PGs X es g → PG X (.Tuple es k pos) (gTup X.K n g) ∧ PG X (.Tuple es k pos) (gUnl X.K n g) := by exact fun _ p => ⟨pg_tup rfl p, pg_unl rfl p⟩) : DG X (.Tuple es k pos) (dgSeq n t) := by
  obtain ⟨g, p, h⟩ := h.ex
  refine ⟨_, pg_or (hp g p).1 (hp g p).2, fun G M σ H σd μ d v Q R hK S r q k => ?_⟩
  obtain ⟨l, e, hl, q⟩ := q
  obtain ⟨a, xs, rfl, hs, rs⟩ := sq_seq S r e
  rw [hK] at hs
  rcases hs with hs | hs
  · exact .inr ⟨a, xs, rfl, hs, by rw [rs.len]; exact hl, h G M σ H σd μ l xs Q R hK S rs q k⟩
  · exact .inl ⟨a, xs, rfl, hs, by rw [rs.len]; exact hl, h G M σ H σd μ l xs Q R hK S rs q k⟩
/-- o[i] = d, o a box -/
def dgBox (to ti : DTE) : DTG := fun d σd μ Q => to σd μ fun o μ1 => ti σd μ1 fun y μ2 => ∃ b l i j, o = .box b ∧ μ2[b]? = some l ∧ y = .int i ∧ ixN l.length i = some j ∧ Q σd (μ2.set b (l.set j d))
theorem nodup_ix' {α : Type} {N : List α} (hN : N.Nodup) {i j : Nat} {x : α} (a : N[i]? = some x) (b : N[j]? = some x) : i = j := by
  obtain ⟨h1, e1⟩ := List.getElem?_eq_some_iff.mp a
  obtain ⟨h2, e2⟩ := List.getElem?_eq_some_iff.mp b
  exact (List.getElem_inj hN).mp (e1.trans e2.symm)
theorem SR.boxSet {G : Gm} {M : Addr → Prop} {σ : St} {H : Hp} {σd : DSt} {μ : Mem} {b : Nat} {a : Addr} {l : List D} {xs : List V} (S : SR G M σ H σd μ) (e : G.bx[b]? = some a) (r : Rps G.K G.bx M H l xs) (hl : b < μ.length) (hb : ∃ ys, H a = some (.lst ys)) :
    SR G M σ (upd H a (.lst xs)) σd (μ.set b l) := by
  have ma : M a := S.m0 _ (S.bm a (List.mem_of_getElem? e))
  have k : Kp M M H (upd H a (.lst xs)) := fun c o m e => ⟨by rw [upd_ne (fun z => m (by rw [z]; exact ma))]; exact e, m⟩
  refine ⟨S.len, fun i d e => ?_, S.dist, by rw [List.length_set]; exact S.blen, fun i c l' e1 e2 => ?_, fun c o h1 h2 => ?_, S.m0, fun q hq => Rp.stay k _ _ (S.fr q hq), fun c m => ?_, S.nd, S.bm, S.m0t⟩
  · obtain ⟨v, e1, r⟩ := S.slot i d e
    refine ⟨v, e1, r.stay k fun p l m h0 hp => ⟨m, ?_⟩⟩
    have : p ≠ a := fun z => by
      subst z
      obtain ⟨o, e'⟩ := S.m0t p (S.bm p (List.mem_of_getElem? ‹G.bx[b]? = some p›))
      rw [h0] at e'; cases e'
    rw [upd_ne this]; exact hp
  · by_cases hi : i = b
    · subst hi
      rw [e] at e1; cases e1
      rw [List.getElem?_set_self hl] at e2
      cases e2
      exact ⟨xs, upd_same, Rps.stay k _ _ r⟩
    · rw [List.getElem?_set_ne (Ne.symm hi)] at e2
      obtain ⟨ys, e3, r3⟩ := S.box i c l' e1 e2
      have : c ≠ a := fun z => by
        subst z
        exact hi (nodup_ix' S.nd e1 e)
      exact ⟨ys, by rw [upd_ne this]; exact e3, Rps.stay k _ _ r3⟩
  · have : c ≠ a := fun z => h1 (by rw [z]; exact List.mem_of_getElem? e)
    rw [upd_ne this]; exact S.keep c o h1 h2
  · by_cases hc : c = a
    · subst hc; exact ⟨_, upd_same⟩
    · obtain ⟨o, e⟩ := S.mt c m
      exact ⟨o, by rw [upd_ne hc]; exact e⟩
theorem dg_box {o i : Expr} {to ti : DTE} (ho : DE X o to) (hi : DE X i ti) (hp : ∀ (te te' : TE), PE X o te → PE X i te' → PG X (.Subscript o i pos) (gSub te te' rSetL) := by exact fun _ _ a b => pg_sub a b set_list) : DG X (.Subscript o i pos) (dgBox to ti) := by
  obtain ⟨te, p, h⟩ := ho.ex
  obtain ⟨te', p', h'⟩ := hi.ex
  refine ⟨_, hp _ _ p p', fun G M σ H σd μ d v Q R hK S r q k => ?_⟩
  refine h (G.pin v d) M σ H σd μ _ _ hK (S.pin r) q fun v1 H1 d1 μ1 S1 r1 q1 => ?_
  refine h' ((G.pin v d).pin v1 d1) M σ H1 σd μ1 _ _ hK (S1.pin r1) q1 fun v2 H2 d2 μ2 S2 r2 q2 => ?_
  obtain ⟨S2a, r1'⟩ := S2.unpin
  obtain ⟨S2b, r'⟩ := S2a.unpin
  obtain ⟨b, l, i, j, rfl, e1, rfl, e2, q⟩ := q2
  obtain ⟨a, xs, rfl, eb, hx, rs⟩ := sq_box S2b r1' e1
  refine ⟨a, xs, i, j, rfl, r2, hx, by rw [rs.len]; exact e2, ?_⟩
  exact k _ _ _ _ (S2b.boxSet eb (rs.set j r') (List.getElem?_eq_some_iff.mp e1).1 ⟨_, hx⟩) q
end
end DL

set_option maxRecDepth 100000
namespace DL
open PySem PySem.Spec L2
section
variable {X : Cx} {e a b c : Expr} {t ta tb tc : DTE} {pos : Pos} {st : Stmt} {sts : List Stmt} {u u' : DTS}
/-! ### statements -/
def dNext : DTS := fun De σd μ => De.nx σd μ
def dSeq (t u : DTS) : DTS := fun De σd μ => t { De with nx := u De } σd μ
theorem dss_nil : DSs X [] dNext := ⟨_, pss_nil, fun G M σ H σd μ De E hK S q L => L.nx _ _ _ _ _ S q⟩
theorem dss_one (h : DS X st u) : DSs X [st] u := by
  obtain ⟨ts, p, h⟩ := h.ex
  exact ⟨_, pss_one p, h⟩
theorem dss_cons (h : DS X st u) (h' : DSs X sts u') : DSs X (st :: sts) (dSeq u u') := by
  obtain ⟨ts, p, h⟩ := h.ex
  obtain ⟨ts', p', h'⟩ := h'.ex
  refine ⟨_, pss_cons p p', fun G M σ H σd μ De E hK S q L => ?_⟩
  exact h G M σ H σd μ _ _ hK S q ⟨fun M σ H σd μ S q => h' G M σ H σd μ De E hK S q L, L.rt, L.bk, L.ct⟩
/-- a list of one's own is left as it is from here on -/
def dFreeze (i : Nat) (t : DTS) : DTS := fun De σd μ => ∃ l : List D, σd[i]? = some (some (.own l)) ∧ t De (σd.set i (some (.lst l))) μ
theorem SR.freeze {G : Gm} {M : Addr → Prop} {σ : St} {H : Hp} {σd : DSt} {μ : Mem} {i : Nat} {l : List D} (S : SR G M σ H σd μ) (e : σd[i]? = some (some (.own l))) : ∃ M', SR G M' σ H (σd.set i (some (.lst l))) μ := by
  obtain ⟨v, ev, p, xs, rfl, mp, hp0, hp, rs⟩ := S.slot i _ e
  have pm0 : ¬ G.M0 p := fun z => by obtain ⟨o, q⟩ := S.m0t p z; rw [hp0] at q; cases q
  have hi : i < σd.length := (List.getElem?_eq_some_iff.mp e).1
  have k : Kp M (fun a => M a ∧ a ≠ p) H H := fun a o m e => ⟨e, fun z => m z.1⟩
  refine ⟨fun a => M a ∧ a ≠ p, by rw [List.length_set]; exact S.len, fun j d ej => ?_, fun j j' q l1 l2 e1 e2 e3 e4 => ?_, S.blen, fun j a l e1 e2 => ?_, S.keep, fun a m => ⟨S.m0 a m, fun z => pm0 (z ▸ m)⟩, fun q hq => Rp.stay k _ _ (S.fr q hq), fun a m => S.mt a m.1, S.nd, S.bm, S.m0t⟩
  · by_cases hj : j = i
    · subst hj
      rw [List.getElem?_set_self hi] at ej
      cases ej
      exact ⟨.ref p, ev, p, xs, rfl, ⟨fun z => z.2 rfl, hp⟩, Rps.stay k _ _ rs⟩
    · rw [List.getElem?_set_ne (Ne.symm hj)] at ej
      obtain ⟨v, ev', r⟩ := S.slot j d ej
      refine ⟨v, ev', ?_⟩
      cases d with
      | own l' =>
        obtain ⟨p', xs', rfl, m', h0', h', r'⟩ := r
        refine ⟨p', xs', rfl, ⟨m', fun z => ?_⟩, h0', h', Rps.stay k _ _ r'⟩
        subst z
        exact hj (S.dist j i p' l' l ej e ev' ev)
      | _ => exact Rp.stay k _ _ r
  · have hn : ∀ {j : Nat} {l' : List D}, (σd.set i (some (.lst l)))[j]? = some (some (.own l')) → j ≠ i := fun {j l'} e z => by
      subst z
      rw [List.getElem?_set_self hi] at e
      cases e
    rw [List.getElem?_set_ne (Ne.symm (hn e1))] at e1
    rw [List.getElem?_set_ne (Ne.symm (hn e2))] at e2
    exact S.dist j j' q l1 l2 e1 e2 e3 e4
  · obtain ⟨ys, h1, h2⟩ := S.box j a l e1 e2
    exact ⟨ys, h1, Rps.stay k _ _ h2⟩
theorem dss_freeze (i : Nat) (h : DSs X sts u) : DSs X sts (dFreeze i u) := by
  obtain ⟨ts, p, h⟩ := h.ex
  refine ⟨_, p, fun G M σ H σd μ De E hK S q L => ?_⟩
  obtain ⟨l, e, q⟩ := q
  obtain ⟨M', S'⟩ := S.freeze e
  exact h G M' σ H _ μ De E hK S' q L
def dAsg (te : DTE) (g : DTG) : DTS := fun De σd μ => te σd μ fun x μ1 => g x σd μ1 De.nx
theorem ds_of_asg {tg : Expr} {g : DTG} (he : DE X e t) (hg : DG X tg g) (hp : ∀ te g', PE X e te → PG X tg g' → PS X (.Assign [tg] e pos) (tAsg te g')) : DS X (.Assign [tg] e pos) (dAsg t g) := by
  obtain ⟨te, p, h⟩ := he.ex
  obtain ⟨g', p', h'⟩ := hg.ex
  refine ⟨_, hp _ _ p p', fun G M σ H σd μ De E hK S q L => ?_⟩
  refine h G M σ H σd μ _ _ hK S q fun v H1 d μ1 S1 r1 q1 => ?_
  exact h' G M σ H1 σd μ1 d v _ _ hK S1 r1 q1 fun σ' H' σd' μ' S' q' => L.nx _ _ _ _ _ S' q'
theorem ds_asg {tg : Expr} {g : DTG} (he : DE X e t) (hg : DG X tg g) (hs : swapsWithSole [tg] e pos.line X.env = pure false := by rfl) (hw : swappedStores [tg] e X.env = pure none := by rfl)
    (h1 : (assignEach [tg] X.env).map (·.2) = [assign tg X.env] := by rfl) : DS X (.Assign [tg] e pos) (dAsg t g) := ds_of_asg he hg fun _ _ a b => ps_asg a b hs hw h1
theorem ds_set {i : Nat} {x : Str} {pos' : Pos} (hN : X.N.Nodup) (hi : X.N[i]? = some x) (hx : Loc X.env.scope x) (he : DE X e t) (hs : swapsWith e (some (.Name x pos')) pos.line X.env = pure false := by rfl) (hf : X.fn x = true ∨ X.env.scope.names.lookup x = some .local := by first | exact .inl rfl | exact .inr rfl | assumption) :
    DS X (.Assign [.Name x pos'] e pos) (dAsg t (dgName i)) := by
  obtain ⟨te, p, h⟩ := he.ex
  refine ⟨_, ps_set hN hi hx p hs hf, fun G M σ H σd μ De E hK S q L => ?_⟩
  refine h G M σ H σd μ _ _ hK S q fun v H1 d μ1 S1 r1 q1 => ?_
  exact L.nx _ _ _ _ _ (S1.set i r1) q1
def dPar (i j : Nat) (ta : DTA) : DTS := fun De σd μ => ta σd μ fun ds μ1 => ∃ v w, ds = [v, w] ∧ De.nx ((σd.set i (some v)).set j (some w)) μ1
theorem ds_par {i j : Nat} {x y : Str} {ta : DTA} {px py pt : Pos} {kt k2 pt2} (ha : DA X [a, b] ta) (hp : ∀ ta', PA X [a, b] ta' → PS X (.Assign [.Tuple [.Name x px, .Name y py] kt pt] (.Tuple [a, b] k2 pt2) pos) (tPar i j ta')) :
    DS X (.Assign [.Tuple [.Name x px, .Name y py] kt pt] (.Tuple [a, b] k2 pt2) pos) (dPar i j ta) := by
  obtain ⟨te, p, h⟩ := ha.ex
  refine ⟨_, hp _ p, fun G M σ H σd μ De E hK S q L => ?_⟩
  refine h G M σ H σd μ _ _ hK S q fun vs H1 ds μ1 S1 r1 q1 => ?_
  obtain ⟨d, d', rfl, q1⟩ := q1
  obtain ⟨v, w, rfl, r1, r2⟩ := rps2 r1
  exact ⟨v, w, rfl, L.nx _ _ _ _ _ ((S1.set i r1).set j r2) q1⟩
def dPar3 (i j l : Nat) (ta : DTA) : DTS := fun De σd μ => ta σd μ fun ds μ1 => ∃ u v w, ds = [u, v, w] ∧ De.nx (((σd.set i (some u)).set j (some v)).set l (some w)) μ1
theorem ds_par3 {i j l : Nat} {x y z : Str} {ta : DTA} {px py pz pt : Pos} {kt k2 pt2} (ha : DA X [a, b, c] ta) (hp : ∀ ta', PA X [a, b, c] ta' → PS X (.Assign [.Tuple [.Name x px, .Name y py, .Name z pz] kt pt] (.Tuple [a, b, c] k2 pt2) pos) (tPar3 i j l ta')) :
    DS X (.Assign [.Tuple [.Name x px, .Name y py, .Name z pz] kt pt] (.Tuple [a, b, c] k2 pt2) pos) (dPar3 i j l ta) := by
  obtain ⟨te, p, h⟩ := ha.ex
  refine ⟨_, hp _ p, fun G M σ H σd μ De E hK S q L => ?_⟩
  refine h G M σ H σd μ _ _ hK S q fun vs H1 ds μ1 S1 r1 q1 => ?_
  obtain ⟨d, d', d'', rfl, q1⟩ := q1
  obtain ⟨v, vr, rfl, r1, r2⟩ := r1
  obtain ⟨w, w', rfl, r2, r3⟩ := rps2 r2
  exact ⟨v, w, w', rfl, L.nx _ _ _ _ _ (((S1.set i r1).set j r2).set l r3) q1⟩
def dRet (te : DTE) : DTS := fun De σd μ => te σd μ De.rt
theorem ds_ret (he : DE X e t) : DS X (.Return (some e) pos) (dRet t) := by
  obtain ⟨te, p, h⟩ := he.ex
  refine ⟨_, ps_ret p, fun G M σ H σd μ De E hK S q L => ?_⟩
  exact h G M σ H σd μ _ _ hK S q fun v H1 d μ1 S1 r1 q1 => L.rt _ _ _ _ _ _ _ S1 r1 q1
def dRetN : DTS := fun De _ μ => De.rt .non μ
theorem ds_retN : DS X (.Return none pos) dRetN := ⟨_, ps_retN, fun G M σ H σd μ De E hK S q L => L.rt _ _ _ _ _ .non .non S rfl q⟩
def dIfS (c : DTT) (t u : DTS) : DTS := fun De σd μ => c σd μ fun b μ1 => if b = true then t De σd μ1 else u De σd μ1
theorem ds_if {c : Expr} {x y : List Stmt} {tc : DTT} (hc : DT X c tc) (ha : DSs X x u) (hb : DSs X y u') : DS X (.If c x y pos) (dIfS tc u u') := by
  obtain ⟨tc, p, h⟩ := hc.ex
  obtain ⟨t1, p1, h1⟩ := ha.ex
  obtain ⟨t2, p2, h2⟩ := hb.ex
  refine ⟨_, ps_if p p1 p2, fun G M σ H σd μ De E hK S q L => ?_⟩
  refine h G M σ H σd μ _ _ hK S q fun b H1 μ1 S1 q1 => ?_
  cases b with
  | true => rw [if_pos rfl] at q1 ⊢; exact h1 G M σ H1 σd μ1 De E hK S1 q1 L
  | false => rw [if_neg (by decide)] at q1 ⊢; exact h2 G M σ H1 σd μ1 De E hK S1 q1 L
theorem ds_pass : DS X (.Pass pos) dNext := ⟨_, ps_pass, fun G M σ H σd μ De E hK S q L => L.nx _ _ _ _ _ S q⟩
def dBreak : DTS := fun De σd μ => De.bk σd μ
def dCont : DTS := fun De σd μ => De.ct σd μ
theorem ds_break : DS X (.Break pos) dBreak := ⟨_, ps_break, fun G M σ H σd μ De E hK S q L => L.bk _ _ _ _ _ S q⟩
theorem ds_continue : DS X (.Continue pos) dCont := ⟨_, ps_continue, fun G M σ H σd μ De E hK S q L => L.ct _ _ _ _ _ S q⟩
theorem ds_doc {x j pos'} : DS X (.Expr (.Constant (.str x) j pos) pos') dNext := ⟨_, ps_doc, fun G M σ H σd μ De E hK S q L => L.nx _ _ _ _ _ S q⟩
def dDrop (te : DTE) : DTS := fun De σd μ => te σd μ fun _ μ1 => De.nx σd μ1
theorem ds_expr (he : DE X e t) (hs : swapsWith e none pos.line X.env = pure false := by rfl) : DS X (.Expr e pos) (dDrop t) := by
  obtain ⟨te, p, h⟩ := he.ex
  refine ⟨_, ps_expr p hs, fun G M σ H σd μ De E hK S q L => ?_⟩
  exact h G M σ H σd μ _ _ hK S q fun v H1 d μ1 S1 r1 q1 => L.nx _ _ _ _ _ S1 q1
/-! lists of one's own -/
theorem SR.ownSet {G : Gm} {M : Addr → Prop} {σ : St} {H : Hp} {σd : DSt} {μ : Mem} {l : List D} {xs : List V} {p : Addr} (S : SR G M σ H σd μ) (i : Nat) (hp : H p = none) (rs : Rps G.K G.bx M H l xs) :
    SR G (fun a => M a ∨ a = p) (σ.set i (some (.ref p))) (upd H p (.lst xs)) (σd.set i (some (.own l))) μ := by
  have nm : ∀ a, M a → a ≠ p := fun a m => by obtain ⟨u, e⟩ := S.mt a m; exact ne_of_none e hp
  have k : Kp M (fun a => M a ∨ a = p) H (upd H p (.lst xs)) := fun a o m e => by
    have : a ≠ p := ne_of_none e hp
    exact ⟨by rw [upd_ne this]; exact e, fun z => z.elim m this⟩
  have h0 : G.H0 p = none := by
    cases q : G.H0 p with
    | none => rfl
    | some o =>
      by_cases hb : p ∈ G.bx
      · obtain ⟨u, e⟩ := S.mt p (S.m0 p (S.bm p hb)); rw [hp] at e; cases e
      · have := S.keep p o hb q; rw [hp] at this; cases this
  refine ⟨by rw [List.length_set, List.length_set]; exact S.len, fun j d e => ?_, fun j j' q l1 l2 e1 e2 e3 e4 => ?_, S.blen, fun j a l e1 e2 => ?_, fun a o h1 h2 => ?_, fun a m => .inl (S.m0 a m), fun q hq => Rp.stay k _ _ (S.fr q hq), fun a m => ?_, S.nd, S.bm, S.m0t⟩
  · by_cases hj : j = i
    · subst hj
      have hl : j < σd.length := by
        have := (List.getElem?_eq_some_iff.mp e).1
        rwa [List.length_set] at this
      rw [List.getElem?_set_self hl] at e
      cases e
      exact ⟨.ref p, by rw [List.getElem?_set_self (by rw [S.len]; exact hl)], p, xs, rfl, .inr rfl, h0, upd_same, Rps.stay k _ _ rs⟩
    · rw [List.getElem?_set_ne (Ne.symm hj)] at e
      obtain ⟨v, ev, r⟩ := S.slot j d e
      exact ⟨v, by rw [List.getElem?_set_ne (Ne.symm hj)]; exact ev, r.stay k fun q l m _ e => ⟨.inl m, by rw [upd_ne (nm q m)]; exact e⟩⟩
  · have old : ∀ {j : Nat} {l' : List D}, j ≠ i → (σd.set i (some (.own l)))[j]? = some (some (.own l')) → (σ.set i (some (.ref p)))[j]? = some (some (.ref q)) → q ≠ p := fun {j l'} hj e1 e3 z => by
      rw [List.getElem?_set_ne (Ne.symm hj)] at e1 e3
      obtain ⟨v, ev, p', xs', rfl, m', _⟩ := S.slot j _ e1
      rw [e3] at ev; cases ev
      exact nm _ m' z
    have new : ∀ {j : Nat} {l' : List D}, j = i → (σd.set i (some (.own l)))[j]? = some (some (.own l')) → (σ.set i (some (.ref p)))[j]? = some (some (.ref q)) → q = p := fun {j l'} hj e1 e3 => by
      subst hj
      have hl : j < σd.length := by
        have := (List.getElem?_eq_some_iff.mp e1).1
        rwa [List.length_set] at this
      rw [List.getElem?_set_self (by rw [S.len]; exact hl)] at e3
      cases e3; rfl
    by_cases h1 : j = i
    · by_cases h2 : j' = i
      · rw [h1, h2]
      · exact absurd (new h1 e1 e3) (old h2 e2 e4)
    · by_cases h2 : j' = i
      · exact absurd (new h2 e2 e4) (old h1 e1 e3)
      · rw [List.getElem?_set_ne (Ne.symm h1)] at e1 e3
        rw [List.getElem?_set_ne (Ne.symm h2)] at e2 e4
        exact S.dist j j' q l1 l2 e1 e2 e3 e4
  · obtain ⟨ys, e3, r3⟩ := S.box j a l e1 e2
    exact ⟨ys, by rw [upd_ne (ne_of_none e3 hp)]; exact e3, Rps.stay k _ _ r3⟩
  · have := S.keep a o h1 h2
    rw [upd_ne (ne_of_none this hp)]; exact this
  · rcases m with m | m
    · obtain ⟨u, e⟩ := S.mt a m
      exact ⟨u, by rw [upd_ne (nm a m)]; exact e⟩
    · subst m; exact ⟨_, upd_same⟩
/-- x = [..], a list of one's own -/
def dOwn (i : Nat) (ta : DTA) : DTS := fun De σd μ => ta σd μ fun ds μ1 => ds.length ≤ sizeLine ∧ De.nx (σd.set i (some (.own ds))) μ1
theorem ds_own {i : Nat} {x : Str} {pos' p2 : Pos} {es : List Expr} {ta : DTA} (hN : X.N.Nodup) (hi : X.N[i]? = some x) (hx : Loc X.env.scope x) (he : DA X es ta) (hs : swapsWith (.List es p2) (some (.Name x pos')) pos.line X.env = pure false := by rfl) (hf : X.fn x = true ∨ X.env.scope.names.lookup x = some .local := by first | exact .inl rfl | exact .inr rfl | assumption) :
    DS X (.Assign [.Name x pos'] (.List es p2) pos) (dOwn i ta) := by
  obtain ⟨te, p, h⟩ := he.ex
  refine ⟨_, ps_set hN hi hx (pe_lst p) hs hf, fun G M σ H σd μ De E hK S q L => ?_⟩
  refine h G M σ H σd μ _ _ hK S q fun v H1 d μ1 S1 r1 q1 => ?_
  exact ⟨by rw [r1.len]; exact q1.1, fun p hp => L.nx _ _ _ _ _ (S1.ownSet i hp r1) q1.2⟩
theorem SR.ownUpd {G : Gm} {M : Addr → Prop} {σ : St} {H : Hp} {σd : DSt} {μ : Mem} {l l' : List D} {xs : List V} {p : Addr} (S : SR G M σ H σd μ) (i : Nat) (e : σd[i]? = some (some (.own l))) (ev : σ[i]? = some (some (.ref p))) (rs : Rps G.K G.bx M H l' xs) :
    SR G M σ (upd H p (.lst xs)) (σd.set i (some (.own l'))) μ := by
  obtain ⟨v, ev', p', xs', rfl, mp, h0, hp, _⟩ := S.slot i _ e
  rw [ev] at ev'; cases ev'
  have hi : i < σd.length := (List.getElem?_eq_some_iff.mp e).1
  have k : Kp M M H (upd H p (.lst xs)) := fun a o m e => ⟨by rw [upd_ne (fun z : a = p => m (by rw [z]; exact mp))]; exact e, m⟩
  have nb : p ∉ G.bx := fun z => by obtain ⟨o, q⟩ := S.m0t p (S.bm p z); rw [h0] at q; cases q
  refine ⟨by rw [List.length_set]; exact S.len, fun j d ej => ?_, fun j j' q l1 l2 e1 e2 e3 e4 => ?_, S.blen, fun j a l e1 e2 => ?_, fun a o h1 h2 => ?_, S.m0, fun q hq => Rp.stay k _ _ (S.fr q hq), fun a m => ?_, S.nd, S.bm, S.m0t⟩
  · by_cases hj : j = i
    · subst hj
      rw [List.getElem?_set_self hi] at ej
      cases ej
      exact ⟨.ref p, ev, p, xs, rfl, mp, h0, upd_same, Rps.stay k _ _ rs⟩
    · rw [List.getElem?_set_ne (Ne.symm hj)] at ej
      obtain ⟨v, ev', r⟩ := S.slot j d ej
      refine ⟨v, ev', ?_⟩
      cases d with
      | own lj =>
        obtain ⟨pj, xj, rfl, mj, h0j, hj', rj⟩ := r
        have : pj ≠ p := fun z => by subst z; exact hj (S.dist j i pj lj l ej e ev' ev)
        exact ⟨pj, xj, rfl, mj, h0j, by rw [upd_ne this]; exact hj', Rps.stay k _ _ rj⟩
      | _ => exact Rp.stay k _ _ r
  · have old : ∀ {j : Nat} {lj : List D}, (σd.set i (some (.own l')))[j]? = some (some (.own lj)) → ∃ l2, σd[j]? = some (some (.own l2)) := fun {j lj} ej => by
      by_cases hj : j = i
      · exact ⟨l, hj ▸ e⟩
      · rw [List.getElem?_set_ne (Ne.symm hj)] at ej; exact ⟨lj, ej⟩
    obtain ⟨a1, f1⟩ := old e1
    obtain ⟨a2, f2⟩ := old e2
    exact S.dist j j' q a1 a2 f1 f2 e3 e4
  · obtain ⟨ys, e3, r3⟩ := S.box j a l e1 e2
    exact ⟨ys, by rw [upd_ne (fun z : a = p => nb (by rw [← z]; exact List.mem_of_getElem? e1))]; exact e3, Rps.stay k _ _ r3⟩
  · have := S.keep a o h1 h2
    have na : a ≠ p := fun z => by subst z; rw [h0] at h2; cases h2
    rw [upd_ne na]; exact this
  · by_cases ha : a = p
    · subst ha; exact ⟨_, upd_same⟩
    · obtain ⟨o, e⟩ := S.mt a m
      exact ⟨o, by rw [upd_ne ha]; exact e⟩
/-- x.append(e), x a list of one's own -/
def dApp (i : Nat) (t : DTE) : DTS := fun De σd μ => ∃ l : List D, σd[i]? = some (some (.own l)) ∧ t σd μ fun d μ1 => l.length < sizeLine ∧ De.nx (σd.set i (some (.own (l ++ [d])))) μ1
theorem ds_append {i : Nat} {o : Expr} {apos cpos : Pos} (ho : PE X o (tVar i)) (he : DE X e t) (hp : ∀ te, PE X e te → PS X (.Expr (.Call (.Attribute o "append" apos) [e] [] cpos) pos) (tDrop (tBM X.K "list" rAppend (tVar i) (tCons te tNil))) := by exact fun te p => ps_expr (pe_bm PySem.F.plainAttrs_list PySem.F.slot_list_append PySem.F.type_list_append mt_append (pv _) (pa_cons p pa_nil))) :
    DS X (.Expr (.Call (.Attribute o "append" apos) [e] [] cpos) pos) (dApp i t) := by
  obtain ⟨te, p, h⟩ := he.ex
  refine ⟨_, hp _ p, fun G M σ H σd μ De E hK S q L => ?_⟩
  obtain ⟨l, e1, q⟩ := q
  obtain ⟨v, ev, pp, xs, rfl, mp, h0, hh, rs⟩ := S.slot i _ e1
  refine ⟨_, ev, .inl ⟨rfl, xs, SqL.of hh⟩, ?_⟩
  refine h G M σ H σd μ _ _ hK S q fun w H1 d μ1 S1 r1 q1 => ?_
  obtain ⟨v', ev', p', xs', e2, mp', h0', hh', rs'⟩ := S1.slot i _ e1
  rw [ev] at ev'; cases ev'; cases e2
  exact ⟨pp, xs', w, rfl, rfl, hh', by rw [rs'.len]; exact q1.1, L.nx _ _ _ _ _ (S1.ownUpd i e1 ev (rs'.app (.one r1))) q1.2⟩
/-! ### defs and their calls -/
abbrev DSp := List D → Mem → (D → Mem → Prop) → Prop
/-- what holds behind a call -/
structure Aft (K : PySem.W.Frag) (bx : List Addr) (M : Addr → Prop) (H H' : Hp) (μ' : Mem) : Prop where
  keep : ∀ a o, a ∉ bx → H a = some o → H' a = some o
  blen : μ'.length = bx.length
  box : ∀ (i : Nat) (a : Addr) (l : List D), bx[i]? = some a → μ'[i]? = some l → ∃ xs, H' a = some (.lst xs) ∧ Rps K bx M H' l xs
def spD (K : PySem.W.Frag) (F : DSp) : Sp := fun vs H Q _ => ∃ (bx : List Addr) (M : Addr → Prop) (ds : List D) (μ : Mem) (Gd : D → Mem → Prop),
  SR ⟨K, bx, M, H, []⟩ M [] H [] μ ∧ Rps K bx M H ds vs ∧ F ds μ Gd ∧ ∀ v H' d μ', Aft K bx M H H' μ' → Rp K bx M H' d v → Gd d μ' → Q v H'
def startD (n : Nat) (ds : List D) : DSt := ds.map some ++ List.replicate (n - ds.length) none
theorem start_sr {K : PySem.W.Frag} {bx : List Addr} {M : Addr → Prop} {H : Hp} {μ : Mem} {N : List Str} {ds : List D} {vs : List V} (S : SR ⟨K, bx, M, H, []⟩ M [] H [] μ) (r : Rps K bx M H ds vs) : SR ⟨K, bx, M, H, []⟩ M (start N vs) H (startD N.length ds) μ := by
  have hl := r.len
  have at' : ∀ {i : Nat} {d : D}, (startD N.length ds)[i]? = some (some d) → ds[i]? = some d := fun {i d} e => by
    unfold startD at e
    by_cases hi : i < ds.length
    · rw [List.getElem?_append_left (by simpa using hi), List.getElem?_map] at e
      cases q : ds[i]? with
      | none => rw [q] at e; cases e
      | some x => rw [q] at e; cases e; rfl
    · rw [List.getElem?_append_right (by simpa using hi), List.getElem?_replicate] at e
      split at e <;> cases e
  have get : ∀ {i : Nat} {v : V}, vs[i]? = some v → (start N vs)[i]? = some (some v) := fun {i v} e => by
    unfold L2.start
    have hi := (List.getElem?_eq_some_iff.mp e).1
    rw [List.getElem?_append_left (by simpa using hi), List.getElem?_map, e]; rfl
  refine ⟨by unfold L2.start startD; simp [hl], fun i d e => ?_, fun i j p l l' e1 e2 => ?_, S.blen, S.box, S.keep, S.m0, S.fr, S.mt, S.nd, S.bm, S.m0t⟩
  · obtain ⟨v, e1, r1⟩ := r.get (at' e)
    exact ⟨v, get e1, .of r1⟩
  · obtain ⟨v, e3, r3⟩ := r.get (at' e1)
    exact (show False from r3).elim
section
variable {P : Program} {w : World} {K : PySem.W.Frag} {mg : Str → Option Value} {base : Heap}
abbrev bX (P : Program) (w : World) (K : PySem.W.Frag) (mg : Str → Option Value) (base : Heap) (N : List Str) (qual : Str) (st : Stmt) (f : Addr) (cdv : Value) (A : Around) (out : List Env) (s : Shared) (H : Hp) (E : XK) : Cx :=
  (cxOf CX0 P w K mg base N qual (defScope st) f cdv A out s H E).nox
theorem okD {x qual : Str} {st : Stmt} {f : Addr} {fd : FuncData} {N ps : List Str} {k : Nat} {F : DSp} (Fu : Fun K x qual st f fd) (S : FnScope N ps (defScope st)) (cnt : ∀ ds μ Gd, F ds μ Gd → ds.length = ps.length)
    (bd : ∀ (cdv : Value) (A : Around) (out : List Env) (s : Shared) (H : Hp) (E : XK), (bX P w K mg base N qual st f cdv A out s H E).A.guards = some [] → Room k (bX P w K mg base N qual st f cdv A out s H E).A →
      ∃ t, DSs (bX P w K mg base N qual st f cdv A out s H E) (defBody st) t ∧ ∀ ds μ Gd, F ds μ Gd → t { nx := fun _ μ' => Gd .non μ', rt := Gd } (startD N.length ds) μ) : FnG P w K mg base (k + 1) f fd ps (spD K F) := by
  refine fnG_of Fu S (fun vs H Q E h => ?_) fun cdv A out s H vs Q E hg hr h => ?_
  · obtain ⟨bx, M, ds, μ, Gd, S0, r, q, _⟩ := h
    rw [r.len]; exact cnt _ _ _ q
  · obtain ⟨bx, M, ds, μ, Gd, S0, r, q, fin⟩ := h
    obtain ⟨t, hd, ht⟩ := bd cdv A out s H E hg hr
    obtain ⟨ts, p, snd⟩ := hd.ex
    refine ⟨ts, p, ?_⟩
    refine snd ⟨K, bx, M, H, []⟩ M (start N vs) H _ μ _ _ rfl (start_sr S0 r) (ht _ _ _ q) ⟨?_, ?_, fun _ _ _ _ _ _ z => z.elim, fun _ _ _ _ _ _ z => z.elim⟩
    · intro M' σ' H' σd' μ' S' q'
      exact fin .non H' .non μ' ⟨S'.keep, S'.blen, fun i a l e1 e2 => by
        obtain ⟨xs, h1, h2⟩ := S'.box i a l e1 e2
        exact ⟨xs, h1, Rps.stay (fun a o m e => ⟨e, fun z => m (S'.m0 a z)⟩) _ _ h2⟩⟩ rfl q'
    · intro M' σ' H' σd' μ' v d S' r' q'
      have k : Kp M' M H' H' := fun a o m e => ⟨e, fun z => m (S'.m0 a z)⟩
      exact fin v H' d μ' ⟨S'.keep, S'.blen, fun i a l e1 e2 => by
        obtain ⟨xs, h1, h2⟩ := S'.box i a l e1 e2
        exact ⟨xs, h1, Rps.stay k _ _ h2⟩⟩ (Rp.stay k _ _ r') q'
end
theorem SR.after {G : Gm} {M : Addr → Prop} {σ : St} {H H' : Hp} {σd : DSt} {μ μ' : Mem} (S : SR G M σ H σd μ) (A : Aft G.K G.bx M H H' μ') : SR G M σ H' σd μ' := by
  have mb : ∀ a, ¬ M a → a ∉ G.bx := fun a m z => m (S.m0 a (S.bm a z))
  have k : Kp M M H H' := fun a o m e => ⟨A.keep a o (mb a m) e, m⟩
  refine ⟨S.len, fun i d e => ?_, S.dist, A.blen, A.box, fun a o h1 h2 => A.keep a o h1 (S.keep a o h1 h2), S.m0, fun q hq => Rp.stay k _ _ (S.fr q hq), fun a m => ?_, S.nd, S.bm, S.m0t⟩
  · obtain ⟨v, e1, r⟩ := S.slot i d e
    refine ⟨v, e1, r.stay k fun p l m h0 hp => ⟨m, A.keep p _ (fun z => ?_) hp⟩⟩
    obtain ⟨o, q⟩ := S.m0t p (S.bm p z)
    rw [h0] at q; cases q
  · by_cases hb : a ∈ G.bx
    · obtain ⟨i, hi⟩ := List.mem_iff_getElem?.mp hb
      have il : i < μ'.length := by rw [A.blen]; exact (List.getElem?_eq_some_iff.mp hi).1
      obtain ⟨xs, h1, _⟩ := A.box i a _ hi (List.getElem?_eq_getElem il)
      exact ⟨_, h1⟩
    · obtain ⟨o, e⟩ := S.mt a m
      exact ⟨o, A.keep a o hb e⟩
theorem SR.entry {G : Gm} {M : Addr → Prop} {σ : St} {H : Hp} {σd : DSt} {μ : Mem} (S : SR G M σ H σd μ) : SR ⟨G.K, G.bx, M, H, []⟩ M [] H [] μ :=
  ⟨rfl, fun i d e => by simp at e, fun i j p l l' e => by simp at e, S.blen, S.box, fun _ _ _ e => e, fun _ m => m, fun _ z => (nomatch z), S.mt, S.nd, fun a z => S.m0 a (S.bm a z), S.mt⟩
def dCall (F : DSp) (t : DTA) : DTE := fun σd μ Q => t σd μ fun ds μ1 => F ds μ1 Q
theorem de_call {k : Nat} {f : Addr} {fd : FuncData} {ps : List Str} {F : DSp} {x : Str} {p : Pos} {es : List Expr} {tr : DTA} (Fn : FnG X.prog X.w X.K X.mg X.base k f fd ps (spD X.K F)) (hg : X.A.guards = some []) (hr : Room k X.A) (gl : Gl X x) (hm : X.mg x = some (.ref f)) (hk : PySem.W.keepIn X.K (.ref f) = true) (hb : Binds X.K fd ps [])
    (ha : DA X (e :: es) tr) (hdb : (x == ("__debug__" : Str)) = false := by decide) (he : starEach (e :: es) X.env = (false, eval e X.env) :: starEach es X.env := by rfl) (hpl : (backTo pos (starEach es X.env)).any (·.1) = false := by rfl) :
    DE X (.Call (.Name x p) (e :: es) [] pos) (dCall F tr) := by
  obtain ⟨te, p, h⟩ := ha.ex
  refine ⟨_, pe_callG Fn hg hr gl hm hk hb p hdb he hpl, fun G M σ H σd μ Q R hK S q kk => ?_⟩
  refine h G M σ H σd μ _ _ hK S q fun vs H1 ds μ1 S1 r1 q1 => ?_
  refine ⟨G.bx, M, ds, μ1, Q, by rw [← hK]; exact S1.entry, by rw [← hK]; exact r1, q1, fun v H' d μ' A r q => ?_⟩
  rw [← hK] at A r
  exact kk v H' d μ' (S1.after A) r q
end
end DL

set_option maxRecDepth 100000
namespace DL
open PySem PySem.Spec L2
/-! ### what a loop walks -/
def Gm.pinL (G : Gm) (F : List (V × D)) : Gm := { G with Fr := F ++ G.Fr }
theorem SR.unpinL {G : Gm} {M : Addr → Prop} {σ : St} {H : Hp} {σd : DSt} {μ : Mem} {F : List (V × D)} (S : SR (G.pinL F) M σ H σd μ) : SR G M σ H σd μ := by
  refine ⟨S.len, fun i d e => ?_, S.dist, S.blen, S.box, S.keep, S.m0, fun q hq => S.fr q (List.mem_append_right _ hq), S.mt, S.nd, S.bm, S.m0t⟩
  obtain ⟨v, e1, q⟩ := S.slot i d e
  exact ⟨v, e1, by cases d <;> exact q⟩
theorem SR.pinL {G : Gm} {M : Addr → Prop} {σ : St} {H : Hp} {σd : DSt} {μ : Mem} {F : List (V × D)} (S : SR G M σ H σd μ) (h : ∀ q ∈ F, Rp G.K G.bx M H q.2 q.1) : SR (G.pinL F) M σ H σd μ := by
  refine ⟨S.len, fun i d e => ?_, S.dist, S.blen, S.box, S.keep, S.m0, fun q hq => (List.mem_append.mp hq).elim (h q) (S.fr q), S.mt, S.nd, S.bm, S.m0t⟩
  obtain ⟨v, e1, q⟩ := S.slot i d e
  exact ⟨v, e1, by cases d <;> exact q⟩
theorem Lk.pinL {G : Gm} {De : DEnds} {E : Ends} {F : List (V × D)} (L : Lk G De E) : Lk (G.pinL F) De E :=
  ⟨fun _ _ _ _ _ S => L.nx _ _ _ _ _ S.unpinL, fun _ _ _ _ _ _ _ S => L.rt _ _ _ _ _ _ _ S.unpinL, fun _ _ _ _ _ S => L.bk _ _ _ _ _ S.unpinL, fun _ _ _ _ _ S => L.ct _ _ _ _ _ S.unpinL⟩
structure ItOk (K : PySem.W.Frag) (bx : List Addr) (F : List (V × D)) (J : It) (items : List D) : Prop where
  go : ∀ (G : Gm) M σ H σd μ i, G.K = K → G.bx = bx → (∀ q ∈ F, q ∈ G.Fr) → SR G M σ H σd μ → i < items.length → J.go i H
  stop : ∀ (G : Gm) M σ H σd μ, G.K = K → G.bx = bx → (∀ q ∈ F, q ∈ G.Fr) → SR G M σ H σd μ → J.stop items.length H
  yld : ∀ (G : Gm) M σ H σd μ i x H' d, G.K = K → G.bx = bx → (∀ q ∈ F, q ∈ G.Fr) → SR G M σ H σd μ → items[i]? = some d → J.yld i H x H' → SR G M σ H' σd μ ∧ Rp G.K G.bx M H' d x
abbrev DTI := DSt → Mem → (List D → Mem → Prop) → Prop
structure DI (X : Cx) (tg iter : Expr) (ti : DTI) : Prop where
  ex : ∃ wi : TI, PI X tg iter wi ∧ ∀ (G : Gm) (M : Addr → Prop) (σ : St) (H : Hp) (σd : DSt) (μ : Mem) (Q : List D → Mem → Prop) (R : It → Hp → Prop), G.K = X.K → SR G M σ H σd μ → ti σd μ Q →
    (∀ (F : List (V × D)) J H' items μ', SR (G.pinL F) M σ H' σd μ' → ItOk G.K G.bx F J items → Q items μ' → R J H') → wi σ H R
section
variable {X : Cx} {e a b c tg : Expr} {t ta tb tc : DTE} {pos : Pos} {st : Stmt} {sts : List Stmt} {u u' : DTS}
/-- items of a value that stands still -/
def stOf : D → Option (List D)
  | .lst l => some l
  | .tup l => some l
  | .frz l => some l
  | _ => none
theorem st_lst {K : PySem.W.Frag} {bx M H} {d : D} {l : List D} {v : V} (r : Rp K bx M H d v) (e : stOf d = some l) : ∃ a, v = .ref a ∧ ((∃ xs, SqL K H a xs ∧ Rps K bx M H l xs ∧ ∀ l', d ≠ .tup l') ∨ (∃ xs, SqT K H a xs ∧ Rps K bx M H l xs ∧ d = .tup l)) := by
  cases d with
  | lst l' =>
    obtain rfl : l' = l := Option.some.inj e
    obtain ⟨a, xs, rfl, o, r⟩ := r
    exact ⟨a, rfl, .inl ⟨xs, o.sq, r, fun _ z => nomatch z⟩⟩
  | frz l' =>
    obtain rfl : l' = l := Option.some.inj e
    obtain ⟨a, xs, rfl, o, r⟩ := r
    exact ⟨a, rfl, .inl ⟨xs, o.sq, r, fun _ z => nomatch z⟩⟩
  | tup l' =>
    obtain rfl : l' = l := Option.some.inj e
    obtain ⟨a, xs, rfl, o, r⟩ := r
    exact ⟨a, rfl, .inr ⟨xs, o.sq, r, rfl⟩⟩
  | _ => cases e
theorem pi_or {wi wi' : TI} (h : PI X tg e wi) (h' : PI X tg e wi') : PI X tg e (fun σ H R => wi σ H R ∨ wi' σ H R) := by
  refine ⟨fun pins s σ H R I q => ?_⟩
  rcases q with q | q
  · exact h.run pins s σ H R I q
  · exact h'.run pins s σ H R I q
def dItL (t : DTE) : DTI := fun σd μ Q => t σd μ fun d μ1 => ∃ l, (d = .lst l ∨ d = .frz l) ∧ Q l μ1
theorem di_list (he : DE X e t) : DI X tg e (dItL t) := by
  obtain ⟨te, p, h⟩ := he.ex
  refine ⟨_, pi_list p, fun G M σ H σd μ Q R hK S q k => ?_⟩
  refine h G M σ H σd μ _ _ hK S q fun v H1 d μ1 S1 r1 q1 => ?_
  obtain ⟨l, e1, q1⟩ := q1
  have e1' : stOf d = some l := by rcases e1 with rfl | rfl <;> rfl
  have nt : ∀ l', d ≠ .tup l' := by rcases e1 with rfl | rfl <;> exact fun _ z => nomatch z
  obtain ⟨a, rfl, hh⟩ := st_lst r1 e1'
  have hx : ∃ xs, SqL G.K H1 a xs ∧ Rps G.K G.bx M H1 l xs := by
    rcases hh with ⟨xs, h1, h2, _⟩ | ⟨xs, _, _, h3⟩
    · exact ⟨xs, h1, h2⟩
    · exact absurd h3 (nt _)
  obtain ⟨xs, h1, h2⟩ := hx
  have again : ∀ (G' : Gm) M σ H σd μ, G'.K = G.K → G'.bx = G.bx → (∀ q ∈ [(V.ref a, d)], q ∈ G'.Fr) → SR G' M σ H σd μ → ∃ xs, SqL X.K H a xs ∧ Rps G'.K G'.bx M H l xs := fun G' M σ H σd μ eK eb hF S' => by
    have r := S'.fr _ (hF _ (List.mem_singleton.mpr rfl))
    obtain ⟨a', ea, hh⟩ := st_lst r e1'
    cases ea
    rcases hh with ⟨xs, h1, h2, _⟩ | ⟨xs, _, _, h3⟩
    · exact ⟨xs, by rw [← hK, ← eK]; exact h1, h2⟩
    · exact absurd h3 (nt _)
  refine ⟨a, rfl, ⟨xs, by rw [← hK]; exact h1⟩, k [(.ref a, d)] _ _ l μ1 (S1.pinL fun q hq => by rw [List.mem_singleton.mp hq]; exact r1) ⟨?_, ?_, ?_⟩ q1⟩
  · intro G' M σ H σd μ i eK eb hF S' hi
    obtain ⟨xs, h1, h2⟩ := again G' M σ H σd μ eK eb hF S'
    obtain ⟨v, e3, _⟩ := h2.get (List.getElem?_eq_getElem hi)
    exact ⟨xs, v, h1, e3⟩
  · intro G' M σ H σd μ eK eb hF S'
    obtain ⟨xs, h1, h2⟩ := again G' M σ H σd μ eK eb hF S'
    exact ⟨xs, h1, by rw [h2.len]; exact Nat.le_refl _⟩
  · intro G' M σ H σd μ i x H' d' eK eb hF S' hi y
    obtain ⟨rfl, y⟩ := y
    obtain ⟨xs, h1, h2⟩ := again G' M σ H' σd μ eK eb hF S'
    obtain ⟨v, e3, r3⟩ := h2.get hi
    have := y xs h1
    rw [e3] at this; cases this
    exact ⟨S', r3⟩
def dItT (t : DTE) : DTI := fun σd μ Q => t σd μ fun d μ1 => ∃ l, d = .tup l ∧ Q l μ1
theorem di_tup (he : DE X e t) : DI X tg e (dItT t) := by
  obtain ⟨te, p, h⟩ := he.ex
  refine ⟨_, pi_tup p, fun G M σ H σd μ Q R hK S q k => ?_⟩
  refine h G M σ H σd μ _ _ hK S q fun v H1 d μ1 S1 r1 q1 => ?_
  obtain ⟨l, rfl, q1⟩ := q1
  obtain ⟨a, xs, rfl, h1, h2⟩ := id r1
  have again : ∀ (G' : Gm) M σ H σd μ, G'.K = G.K → G'.bx = G.bx → (∀ q ∈ [(V.ref a, D.tup l)], q ∈ G'.Fr) → SR G' M σ H σd μ → ∃ xs, SqT X.K H a xs ∧ Rps G'.K G'.bx M H l xs := fun G' M σ H σd μ eK eb hF S' => by
    obtain ⟨a', xs, ea, h1, h2⟩ := S'.fr _ (hF _ (List.mem_singleton.mpr rfl))
    cases ea
    exact ⟨xs, by rw [← hK, ← eK]; exact h1.sq, h2⟩
  refine ⟨a, rfl, ⟨xs, by rw [← hK]; exact h1.sq⟩, k [(.ref a, .tup l)] _ _ l μ1 (S1.pinL fun q hq => by rw [List.mem_singleton.mp hq]; exact r1) ⟨?_, ?_, ?_⟩ q1⟩
  · intro G' M σ H σd μ i eK eb hF S' hi
    obtain ⟨xs, h1, h2⟩ := again G' M σ H σd μ eK eb hF S'
    obtain ⟨v, e3, _⟩ := h2.get (List.getElem?_eq_getElem hi)
    exact ⟨xs, v, h1, e3⟩
  · intro G' M σ H σd μ eK eb hF S'
    obtain ⟨xs, h1, h2⟩ := again G' M σ H σd μ eK eb hF S'
    exact ⟨xs, h1, by rw [h2.len]; exact Nat.le_refl _⟩
  · intro G' M σ H σd μ i x H' d' eK eb hF S' hi y
    obtain ⟨rfl, y⟩ := y
    obtain ⟨xs, h1, h2⟩ := again G' M σ H' σd μ eK eb hF S'
    obtain ⟨v, e3, r3⟩ := h2.get hi
    have := y xs h1
    rw [e3] at this; cases this
    exact ⟨S', r3⟩
/-- the ints lo, lo + 1, .., n of them -/
def rngD (lo : Int) (n : Nat) : List D := (List.range n).map fun (i : Nat) => D.int (lo + (i : Int))
theorem rngD_len (lo : Int) (n : Nat) : (rngD lo n).length = n := by unfold rngD; simp
theorem rng_it {K : PySem.W.Frag} {bx : List Addr} (lo : Int) (n : Nat) : ItOk K bx [] (Itr lo n) (rngD lo n) := by
  refine ⟨?_, ?_, ?_⟩
  · intro G' M σ H σd μ i eK eb hF S' hi
    rw [rngD_len] at hi
    exact hi
  · intro G' M σ H σd μ eK eb hF S'
    rw [rngD_len]
    exact Nat.le_refl n
  · intro G' M σ H σd μ i x H' d' eK eb hF S' hi y
    obtain ⟨rfl, rfl⟩ := y
    unfold rngD at hi
    rw [List.getElem?_map] at hi
    cases q : (List.range n)[i]? with
    | none => rw [q] at hi; cases hi
    | some j =>
      rw [q] at hi
      obtain ⟨_, e⟩ := List.getElem?_eq_some_iff.mp q
      rw [List.getElem_range] at e
      subst e
      cases hi
      exact ⟨S', rfl⟩
def dRng1 (t : DTA) : DTI := fun σd μ Q => t σd μ fun ds μ1 => ∃ j : Int, ds = [.int j] ∧ (-(2 ^ 62) ≤ j ∧ j < 2 ^ 62) ∧ Q (rngD 0 j.toNat) μ1
theorem di_range1 {ta : DTA} {p pos : Pos} (hg : Gl X "range") (hm : X.mg "range" = none) (ha : DA X [a] ta) (hp : ∀ ta', PA X [a] ta' → PI X tg (.Call (.Name "range" p) [a] [] pos) (iRng1 ta') := by exact fun _ p => pi_range1 (by rfl) (by assumption) p) : DI X tg (.Call (.Name "range" p) [a] [] pos) (dRng1 ta) := by
  obtain ⟨te, p, h⟩ := ha.ex
  refine ⟨_, hp _ p, fun G M σ H σd μ Q R hK S q k => ?_⟩
  refine h G M σ H σd μ _ _ hK S q fun vs H1 ds μ1 S1 r1 q1 => ?_
  obtain ⟨j, rfl, hj, q1⟩ := q1
  obtain ⟨v, rfl, r⟩ := rps1 r1
  exact ⟨j, by rw [show v = .int j from r], hj.1, hj.2, k [] _ _ _ _ (S1.pinL fun q hq => nomatch hq) (rng_it 0 j.toNat) q1⟩
def dRng2 (t : DTA) : DTI := fun σd μ Q => t σd μ fun ds μ1 => ∃ i j : Int, ds = [.int i, .int j] ∧ (-(2 ^ 62) ≤ i ∧ i < 2 ^ 62 ∧ -(2 ^ 62) ≤ j ∧ j < 2 ^ 62) ∧ Q (rngD i (j - i).toNat) μ1
theorem di_range2 {ta : DTA} {p pos : Pos} (ha : DA X [a, b] ta) (hp : ∀ ta', PA X [a, b] ta' → PI X tg (.Call (.Name "range" p) [a, b] [] pos) (iRng2 ta')) : DI X tg (.Call (.Name "range" p) [a, b] [] pos) (dRng2 ta) := by
  obtain ⟨te, p, h⟩ := ha.ex
  refine ⟨_, hp _ p, fun G M σ H σd μ Q R hK S q k => ?_⟩
  refine h G M σ H σd μ _ _ hK S q fun vs H1 ds μ1 S1 r1 q1 => ?_
  obtain ⟨i, j, rfl, hj, q1⟩ := q1
  obtain ⟨v, v', rfl, r, r'⟩ := rps2 r1
  exact ⟨i, j, by rw [show v = .int i from r, show v' = .int j from r'], hj, k [] _ _ _ _ (S1.pinL fun q hq => nomatch hq) (rng_it i (j - i).toNat) q1⟩
/-! ### for -/
def dLoop (g : DTG) (tb : DTS) (De : DEnds) : List D → DSt → Mem → Prop
  | [], σd, μ => De.nx σd μ
  | x :: r, σd, μ => g x σd μ fun σ2 μ2 => tb { nx := dLoop g tb De r, rt := De.rt, bk := De.nx, ct := dLoop g tb De r } σ2 μ2
def dFor (ti : DTI) (g : DTG) (tb : DTS) : DTS := fun De σd μ => ti σd μ fun items μ1 => dLoop g tb De items σd μ1
theorem ds_for {iter : Expr} {body : List Stmt} {ti : DTI} {g : DTG} (hi : DI X tg iter ti) (hg : DG X tg g) (hb : DSs X body u)
    (hp : ∀ wi g' tb, PI X tg iter wi → PG X tg g' → PSs X body tb → PS X (.For tg iter body [] pos) (tFor wi g' tb) := by exact fun _ _ _ a b c => ps_for PassesOwn.never rfl a b c) : DS X (.For tg iter body [] pos) (dFor ti g u) := by
  obtain ⟨wi, p1, h1⟩ := hi.ex
  obtain ⟨g', p2, h2⟩ := hg.ex
  obtain ⟨tb, p3, h3⟩ := hb.ex
  refine ⟨_, hp _ _ _ p1 p2 p3, fun G M σ H σd μ De E hK S q L => ?_⟩
  refine h1 G M σ H σd μ _ _ hK S q fun F J H1 items μ1 S1 ok q1 => ?_
  have mF : ∀ q ∈ F, q ∈ (G.pinL F).Fr := fun q hq => List.mem_append_left _ hq
  refine ⟨fun i m σ' H' => m = items.length - i ∧ i ≤ items.length ∧ ∃ M σd μ, SR (G.pinL F) M σ' H' σd μ ∧ dLoop g u De (items.drop i) σd μ,
    ⟨items.length, rfl, Nat.zero_le _, M, σd, μ1, S1, q1⟩, ?_⟩
  rintro i m σ2 H2 ⟨rfl, hi, M2, σd2, μ2, S2, q2⟩
  by_cases hlt : i < items.length
  · refine .inr ⟨ok.go (G.pinL F) M2 σ2 H2 σd2 μ2 i rfl rfl mF S2 hlt, fun σ' H' => ∃ M σd μ, SR (G.pinL F) M σ' H' σd μ ∧ dLoop g u De (items.drop (i + 1)) σd μ, ?_, ?_⟩
    · rintro σ3 H3 ⟨M3, σd3, μ3, S3, q3⟩
      exact ⟨items.length - (i + 1), by omega, rfl, hlt, M3, σd3, μ3, S3, q3⟩
    · intro x H3 y
      rw [List.drop_eq_getElem_cons hlt] at q2
      obtain ⟨S3, r3⟩ := ok.yld (G.pinL F) M2 σ2 H2 σd2 μ2 i x H3 items[i] rfl rfl mF S2 (List.getElem?_eq_getElem hlt) y
      refine h2 (G.pinL F) M2 σ2 H3 σd2 μ2 items[i] x _ _ hK S3 r3 q2 fun σ4 H4 σd4 μ4 S4 q4 => ?_
      exact h3 (G.pinL F) M2 σ4 H4 σd4 μ4 _ _ hK S4 q4
        ⟨fun M5 σ5 H5 σd5 μ5 S5 q5 => ⟨M5, σd5, μ5, S5, q5⟩, L.pinL.rt, fun M5 σ5 H5 σd5 μ5 S5 q5 => L.pinL.nx _ _ _ _ _ S5 q5, fun M5 σ5 H5 σd5 μ5 S5 q5 => ⟨M5, σd5, μ5, S5, q5⟩⟩
  · have e : i = items.length := by omega
    subst e
    rw [List.drop_length] at q2
    exact .inl ⟨ok.stop (G.pinL F) M2 σ2 H2 σd2 μ2 rfl rfl mF S2, L.pinL.nx _ _ _ _ _ S2 q2⟩
/-! ### while -/
def dWhile (c : DTT) (tb : DTS) : DTS := fun De σd μ => ∃ W : Nat → DSt → Mem → Prop, (∃ m, W m σd μ) ∧ ∀ m σd μ, W m σd μ →
  c σd μ fun b μ1 => if b = true then ∃ N : DSt → Mem → Prop, (∀ σ' μ', N σ' μ' → ∃ m', m' < m ∧ W m' σ' μ') ∧ tb { nx := N, rt := De.rt, bk := De.nx, ct := N } σd μ1 else De.nx σd μ1
theorem ds_while {c : Expr} {body : List Stmt} {tc : DTT} (hc : DT X c tc) (hb : DSs X body u) (hp : ∀ tc' tb, PT X c tc' → PSs X body tb → PS X (.While c body [] pos) (tWhile tc' tb) := by exact fun _ _ a b => ps_while PassesOwn.never a b) : DS X (.While c body [] pos) (dWhile tc u) := by
  obtain ⟨tc', p1, h1⟩ := hc.ex
  obtain ⟨tb, p2, h2⟩ := hb.ex
  refine ⟨_, hp _ _ p1 p2, fun G M σ H σd μ De E hK S q L => ?_⟩
  obtain ⟨W, ⟨m0, w0⟩, step⟩ := q
  refine ⟨fun m σ' H' => ∃ M σd μ, SR G M σ' H' σd μ ∧ W m σd μ, ⟨m0, M, σd, μ, S, w0⟩, ?_⟩
  rintro m σ1 H1 ⟨M1, σd1, μ1, S1, w1⟩
  refine h1 G M1 σ1 H1 σd1 μ1 _ _ hK S1 (step m σd1 μ1 w1) fun b H2 μ2 S2 q2 => ?_
  cases b with
  | false =>
    rw [if_neg (by decide)] at q2 ⊢
    exact L.nx _ _ _ _ _ S2 q2
  | true =>
    rw [if_pos rfl] at q2 ⊢
    obtain ⟨N, hN, q2⟩ := q2
    refine ⟨fun σ' H' => ∃ M σd μ, SR G M σ' H' σd μ ∧ N σd μ, ?_, ?_⟩
    · rintro σ3 H3 ⟨M3, σd3, μ3, S3, n3⟩
      obtain ⟨m', hm, w⟩ := hN σd3 μ3 n3
      exact ⟨m', hm, M3, σd3, μ3, S3, w⟩
    · exact h2 G M1 σ1 H2 σd1 μ2 _ _ hK S2 q2 ⟨fun M5 σ5 H5 σd5 μ5 S5 q5 => ⟨M5, σd5, μ5, S5, q5⟩, L.rt, fun M5 σ5 H5 σd5 μ5 S5 q5 => L.nx _ _ _ _ _ S5 q5, fun M5 σ5 H5 σd5 μ5 S5 q5 => ⟨M5, σd5, μ5, S5, q5⟩⟩
end
end DL

set_option maxRecDepth 100000
namespace DL
open PySem PySem.Spec L2
/-! ### comprehensions -/
def hid : D → Option D
  | .own _ => none
  | d => some d
def wipeD (σd : DSt) : List Nat → DSt
  | [] => σd
  | v :: vs => (wipeD σd vs).set v none
def hideD (σd : DSt) (vs : List Nat) : DSt := wipeD (σd.map fun o => o.bind hid) vs
theorem wipeD_len (σd : DSt) : ∀ vs : List Nat, (wipeD σd vs).length = σd.length
  | [] => rfl
  | v :: vs => by unfold wipeD; rw [List.length_set, wipeD_len σd vs]
theorem wipeD_some {σd : DSt} {i : Nat} {d : D} : ∀ {vs : List Nat}, (wipeD σd vs)[i]? = some (some d) → σd[i]? = some (some d) ∧ i ∉ vs
  | [], h => ⟨h, fun z => nomatch z⟩
  | v :: vs, h => by
    unfold wipeD at h
    by_cases hv : i = v
    · subst hv
      by_cases hl : i < (wipeD σd vs).length
      · rw [List.getElem?_set_self hl] at h; cases h
      · rw [List.getElem?_eq_none (by rw [List.length_set]; omega)] at h; cases h
    · rw [List.getElem?_set_ne (Ne.symm hv)] at h
      obtain ⟨h1, h2⟩ := wipeD_some h
      exact ⟨h1, fun z => (List.mem_cons.mp z).elim hv h2⟩
theorem wipe_at {σ : St} {i : Nat} : ∀ {vs : List Nat}, i ∉ vs → (wipe σ vs)[i]? = σ[i]?
  | [], _ => rfl
  | v :: vs, h => by
    unfold wipe
    rw [List.getElem?_set_ne (fun z => h (by rw [z]; exact List.mem_cons_self))]
    exact wipe_at fun z => h (List.mem_cons_of_mem _ z)
theorem Aft.refl {K bx M H} {μ : Mem} (hl : μ.length = bx.length) (hb : ∀ (i : Nat) (a : Addr) (l : List D), bx[i]? = some a → μ[i]? = some l → ∃ xs, H a = some (.lst xs) ∧ Rps K bx M H l xs) : Aft K bx M H H μ := ⟨fun _ _ _ e => e, hl, hb⟩
/-- a block's state within the frame's: the new list at Dn is not to be touched, lists of one's own are hidden -/
theorem SR.sub {G : Gm} {M : Addr → Prop} {σ : St} {H H' : Hp} {σd : DSt} {μ μ' : Mem} {Dn : Addr} {o : HO} (vs : List Nat) (S : SR G M σ H σd μ) (A : Aft G.K G.bx (fun a => M a ∨ a = Dn) H H' μ') (hn : H Dn = none) (hd : H' Dn = some o) :
    SR ⟨G.K, G.bx, fun a => M a ∨ a = Dn, H', G.Fr⟩ (fun a => M a ∨ a = Dn) (wipe σ vs) H' (hideD σd vs) μ' := by
  have mb : ∀ a, ¬ M a → a ∉ G.bx := fun a m z => m (S.m0 a (S.bm a z))
  have k : Kp M (fun a => M a ∨ a = Dn) H H' := fun a o m e => ⟨A.keep a o (mb a m) e, fun z => z.elim m fun z => by rw [z, hn] at e; cases e⟩
  have tr : ∀ a, (M a ∨ a = Dn) → ∃ o, H' a = some o := fun a m => by
    rcases m with m | rfl
    · by_cases hb : a ∈ G.bx
      · obtain ⟨i, hi⟩ := List.mem_iff_getElem?.mp hb
        have il : i < μ'.length := by rw [A.blen]; exact (List.getElem?_eq_some_iff.mp hi).1
        obtain ⟨xs, h1, _⟩ := A.box i a _ hi (List.getElem?_eq_getElem il)
        exact ⟨_, h1⟩
      · obtain ⟨o, e⟩ := S.mt a m
        exact ⟨o, A.keep a o hb e⟩
    · exact ⟨o, hd⟩
  have sl : ∀ {i : Nat} {d : D}, (hideD σd vs)[i]? = some (some d) → σd[i]? = some (some d) ∧ i ∉ vs ∧ ∀ l, d ≠ .own l := fun {i d} e => by
    obtain ⟨e1, e2⟩ := wipeD_some e
    rw [List.getElem?_map] at e1
    cases q : σd[i]? with
    | none => rw [q] at e1; cases e1
    | some x =>
      rw [q] at e1
      cases x with
      | none => cases e1
      | some d' =>
        have e1 : some (hid d') = some (some d) := e1
        cases d' with
        | own l => cases e1
        | _ => cases e1; exact ⟨rfl, e2, fun _ z => nomatch z⟩
  refine ⟨by rw [wipe_length]; unfold hideD; rw [wipeD_len, List.length_map]; exact S.len, fun i d e => ?_, fun i j p l l' e1 => absurd rfl ((sl e1).2.2 l), A.blen, A.box, fun _ _ _ e => e, fun _ m => m, fun q hq => Rp.stay k _ _ (S.fr q hq), tr, S.nd, fun a z => .inl (S.m0 a (S.bm a z)), tr⟩
  obtain ⟨e1, e2, e3⟩ := sl e
  obtain ⟨v, e4, r⟩ := S.slot i d e1
  refine ⟨v, by rw [wipe_at e2]; exact e4, .of ?_⟩
  cases d with
  | own l => exact absurd rfl (e3 l)
  | _ => exact Rp.stay k _ _ r
theorem Aft.of_sr {K : PySem.W.Frag} {bx : List Addr} {M : Addr → Prop} {H H' : Hp} {Fr : List (V × D)} {σ : St} {σd : DSt} {μ : Mem} (S : SR ⟨K, bx, M, H, Fr⟩ M σ H' σd μ) : Aft K bx M H H' μ := ⟨S.keep, S.blen, S.box⟩
theorem Aft.trans {K bx M H H1 H2} {μ1 μ2 : Mem} (a : Aft K bx M H H1 μ1) (b : Aft K bx M H1 H2 μ2) : Aft K bx M H H2 μ2 := ⟨fun c o h e => b.keep c o h (a.keep c o h e), b.blen, b.box⟩
/-- a target in a block: what it stores are the block's own names -/
def CG (K : PySem.W.Frag) (vs : List Nat) (g' : TG) (g : DTG) : Prop := ∀ (G : Gm) (M : Addr → Prop) (σ : St) (H : Hp) (σd : DSt) (μ : Mem) (d : D) (v : V) (Q : DSt → Mem → Prop) (R : St → Hp → Prop), G.K = K → SR G M σ H σd μ → Rp G.K G.bx M H d v → g d σd μ Q →
  (∀ σ' H' σd' μ', SR G M σ' H' σd' μ' → wipe σ' vs = wipe σ vs → Q σd' μ' → R σ' H') → g' v σ H R
theorem wipe_set {σ : St} {i : Nat} {x : Option V} : ∀ {vs : List Nat}, i ∈ vs → wipe (σ.set i x) vs = wipe σ vs
  | [], h => nomatch h
  | v :: vs, h => by
    unfold wipe
    by_cases hm : i ∈ vs
    · rw [wipe_set hm]
    · have e : i = v := (List.mem_cons.mp h).elim id fun z => absurd z hm
      subst e
      have : ∀ ws : List Nat, i ∉ ws → wipe (σ.set i x) ws = (wipe σ ws).set i x := fun ws => by
        induction ws with
        | nil => intro _; rfl
        | cons w ws ih =>
          intro hw
          unfold wipe
          rw [ih fun z => hw (List.mem_cons_of_mem _ z), List.set_comm _ _ (fun z => hw (by rw [z]; exact List.mem_cons_self))]
      rw [this vs hm, List.set_set]
theorem cg_name {K : PySem.W.Frag} {vs : List Nat} {i : Nat} (h : i ∈ vs) : CG K vs (gName i) (dgName i) := fun G M σ H σd μ d v Q R hK S r q k => k _ _ _ _ (S.set i r) (wipe_set h) q
theorem wipe_comm {σ : St} {i : Nat} : ∀ {vs : List Nat}, wipe (σ.set i none) vs = (wipe σ vs).set i none
  | [] => rfl
  | v :: vs => by
    unfold wipe
    rw [wipe_comm]
    by_cases h : i = v
    · subst h; rfl
    · rw [List.set_comm _ _ h]
theorem wipe_wipe (σ : St) : ∀ vs : List Nat, wipe (wipe σ vs) vs = wipe σ vs
  | [] => rfl
  | v :: vs => by
    show wipe ((wipe σ vs).set v none) (v :: vs) = (wipe σ vs).set v none
    show (wipe ((wipe σ vs).set v none) vs).set v none = (wipe σ vs).set v none
    rw [wipe_comm, wipe_wipe σ vs, List.set_set]
def gNs : List Nat → TGs
  | [] => gNil
  | i :: r => gCons (gName i) (gNs r)
def dgNs : List Nat → DTGs
  | [] => dgNil
  | i :: r => dgCons (dgName i) (dgNs r)
theorem cg_ns {vs : List Nat} : ∀ (is : List Nat), (∀ i ∈ is, i ∈ vs) → ∀ (G : Gm) (M : Addr → Prop) (σ : St) (H : Hp) (σd : DSt) (μ : Mem) (ds : List D) (xs : List V) (Q : DSt → Mem → Prop) (R : St → Hp → Prop), SR G M σ H σd μ → Rps G.K G.bx M H ds xs → dgNs is ds σd μ Q →
    (∀ σ' H' σd' μ', SR G M σ' H' σd' μ' → wipe σ' vs = wipe σ vs → Q σd' μ' → R σ' H') → gNs is xs σ H R
  | [], _, G, M, σ, H, σd, μ, ds, xs, Q, R, S, r, q, k => by
    obtain ⟨rfl, q⟩ := q
    exact ⟨r, k _ _ _ _ S rfl q⟩
  | i :: is, hi, G, M, σ, H, σd, μ, ds, xs, Q, R, S, r, q, k => by
    obtain ⟨d, dr, rfl, q⟩ := q
    obtain ⟨v, vr, rfl, r1, r2⟩ := r
    refine ⟨v, vr, rfl, ?_⟩
    exact cg_ns is (fun j hj => hi j (List.mem_cons_of_mem _ hj)) G M _ H _ μ dr vr Q R (S.set i r1) r2 q fun σ' H' σd' μ' S' w q' => k σ' H' σd' μ' S' (w.trans (wipe_set (hi i List.mem_cons_self))) q'
theorem cg_seq {K : PySem.W.Frag} {vs is : List Nat} {n : Nat} (h : ∀ i ∈ is, i ∈ vs) : CG K vs (fun v σ H Q => gTup K n (gNs is) v σ H Q ∨ gUnl K n (gNs is) v σ H Q) (dgSeq n (dgNs is)) := fun G M σ H σd μ d v Q R hK S r q k => by
  obtain ⟨l, e, hl, q⟩ := q
  obtain ⟨a, xs, rfl, hs, rs⟩ := sq_seq S r e
  rw [hK] at hs
  have go := cg_ns is h G M σ H σd μ l xs Q R S rs q k
  rcases hs with hs | hs
  · exact .inr ⟨a, xs, rfl, hs, by rw [rs.len]; exact hl, go⟩
  · exact .inl ⟨a, xs, rfl, hs, by rw [rs.len]; exact hl, go⟩
def dLcLoop (g : DTG) (tt : DTT) (te : DTE) (σw : DSt) : List D → List D → Mem → (List D → Mem → Prop) → Prop
  | [], acc, μ, Q => Q acc μ
  | x :: r, acc, μ, Q => g x σw μ fun σ2 μ2 => tt σ2 μ2 fun b μ3 => if b = true then te σ2 μ3 fun y μ4 => acc.length < sizeLine ∧ dLcLoop g tt te σw r (acc ++ [y]) μ4 Q else dLcLoop g tt te σw r acc μ3 Q
def dLc (ti : DTI) (g : DTG) (tt : DTT) (te : DTE) (vs : List Nat) : DTE := fun σd μ Q => ti σd μ fun items μ1 => dLcLoop g tt te (hideD σd vs) items [] μ1 fun acc μ2 => Q (.lst acc) μ2
def dYes : DTT := fun _ μ Q => Q true μ
section
variable {X : Cx} {elt tg iter : Expr} {ifs : List Expr} {scope : Scope} {own : List (Str × Nat)} {pos : Pos} {ti : DTI} {g' : TG} {g : DTG} {tt : DTT} {te : DTE} {tt' : TT}
/-- from the block's readings, whatever its context -/
theorem lc_snd {wi : TI} (hi : ∀ (G : Gm) (M : Addr → Prop) (σ : St) (H : Hp) (σd : DSt) (μ : Mem) (Q : List D → Mem → Prop) (R : It → Hp → Prop), G.K = X.K → SR G M σ H σd μ → ti σd μ Q →
      (∀ (F : List (V × D)) J H' items μ', SR (G.pinL F) M σ H' σd μ' → ItOk G.K G.bx F J items → Q items μ' → R J H') → wi σ H R) (hg : CG X.K (own.map (·.2)) g' g)
    (ht : ∀ (G : Gm) (M : Addr → Prop) (σ : St) (H : Hp) (σd : DSt) (μ : Mem) (Q : Bool → Mem → Prop) (R : Bool → Hp → Prop), G.K = X.K → SR G M σ H σd μ → tt σd μ Q → (∀ b H' μ', SR G M σ H' σd μ' → Q b μ' → R b H') → tt' σ H R)
    (G : Gm) (M : Addr → Prop) (σ : St) (H : Hp) (σd : DSt) (μ : Mem) (Q : D → Mem → Prop) (R : VK) (hK : G.K = X.K) (S : SR G M σ H σd μ) (hq : dLc ti g tt te (own.map (·.2)) σd μ Q)
    (k : ∀ v H' d μ', SR G M σ H' σd μ' → Rp G.K G.bx M H' d v → Q d μ' → R v H') : tLc wi g' tt' (liftE X.K te) (own.map (·.2)) σ H R := by
  refine hi G M σ H σd μ _ _ hK S hq fun F J H1 items μ1 S1 ok q1 => ?_
  intro Dn hn
  have nM : ¬ M Dn := fun m => by obtain ⟨o, e⟩ := S1.mt Dn m; rw [hn] at e; cases e
  have nb : Dn ∉ G.bx := fun z => nM (S1.m0 Dn (S1.bm Dn z))
  have kD : Kp M (fun a => M a ∨ a = Dn) H1 H1 := fun a o m e => ⟨e, fun z => z.elim m fun z => by rw [z, hn] at e; cases e⟩
  have kDn : ∀ {H2 : Hp} {o : HO}, Kp (fun a => M a ∨ a = Dn) (fun a => M a ∨ a = Dn) H2 (upd H2 Dn o) := fun {H2 o} a u m e => ⟨by rw [upd_ne (fun z => m (.inr z))]; exact e, m⟩
  have bxne : ∀ {i : Nat} {a : Addr}, G.bx[i]? = some a → a ≠ Dn := fun {i a} e z => nb (by rw [← z]; exact List.mem_of_getElem? e)
  refine ⟨fun i m H2 => m = items.length - i ∧ i ≤ items.length ∧ ∃ μ2 acc xs, Aft G.K G.bx (fun a => M a ∨ a = Dn) H1 H2 μ2 ∧ H2 Dn = some (.lst xs) ∧ Rps G.K G.bx (fun a => M a ∨ a = Dn) H2 acc xs ∧
      dLcLoop g tt te (hideD σd (own.map (·.2))) (items.drop i) acc μ2 fun acc μ2 => Q (.lst acc) μ2, ⟨items.length, rfl, Nat.zero_le _, μ1, [], [], ?_, upd_same, rfl, q1⟩, ?_⟩
  · refine ⟨fun a o _ e => by rw [upd_ne (ne_of_none e hn)]; exact e, S1.blen, fun i a l e1 e2 => ?_⟩
    obtain ⟨ys, h1, h2⟩ := S1.box i a l e1 e2
    exact ⟨ys, by rw [upd_ne (bxne e1)]; exact h1, Rps.stay kDn _ _ (Rps.stay kD _ _ h2)⟩
  · rintro i m H2 ⟨rfl, hi, μ2, acc, xs, A, hD, rs, q2⟩
    have S2 := S1.sub (own.map (·.2)) A hn hD
    have mF : ∀ q ∈ F, q ∈ (G.pinL F).Fr := fun q hq => List.mem_append_left _ hq
    by_cases hlt : i < items.length
    · refine .inr ⟨ok.go ⟨G.K, G.bx, fun a => M a ∨ a = Dn, H2, (G.pinL F).Fr⟩ _ _ H2 _ μ2 i rfl rfl mF S2 hlt, fun H' => ∃ μ2 acc xs, Aft G.K G.bx (fun a => M a ∨ a = Dn) H1 H' μ2 ∧ H' Dn = some (.lst xs) ∧ Rps G.K G.bx (fun a => M a ∨ a = Dn) H' acc xs ∧
          dLcLoop g tt te (hideD σd (own.map (·.2))) (items.drop (i + 1)) acc μ2 fun acc μ2 => Q (.lst acc) μ2, ?_, ?_⟩
      · rintro H3 ⟨μ3, acc3, xs3, h1, h2, h3, h4⟩
        exact ⟨items.length - (i + 1), by omega, rfl, hlt, μ3, acc3, xs3, h1, h2, h3, h4⟩
      · intro x H3 y
        rw [List.drop_eq_getElem_cons hlt] at q2
        obtain ⟨S3, r3⟩ := ok.yld ⟨G.K, G.bx, fun a => M a ∨ a = Dn, H2, (G.pinL F).Fr⟩ _ _ H2 _ μ2 i x H3 items[i] rfl rfl mF S2 (List.getElem?_eq_getElem hlt) y
        refine hg ⟨G.K, G.bx, fun a => M a ∨ a = Dn, H2, (G.pinL F).Fr⟩ _ _ H3 _ μ2 items[i] x _ _ hK S3 r3 q2 fun σ4 H4 σd4 μ4 S4 w4 q4 => ?_
        refine ⟨w4.trans ?_, ?_⟩
        · exact wipe_wipe σ _
        refine ht ⟨G.K, G.bx, fun a => M a ∨ a = Dn, H2, (G.pinL F).Fr⟩ _ σ4 H4 σd4 μ4 _ _ hK S4 q4 fun b H5 μ5 S5 q5 => ?_
        have back : ∀ {H6 : Hp} {μ6 : Mem}, SR ⟨G.K, G.bx, fun a => M a ∨ a = Dn, H2, (G.pinL F).Fr⟩ (fun a => M a ∨ a = Dn) σ4 H6 σd4 μ6 → Aft G.K G.bx (fun a => M a ∨ a = Dn) H1 H6 μ6 ∧ H6 Dn = some (.lst xs) ∧ Rps G.K G.bx (fun a => M a ∨ a = Dn) H6 acc xs := fun {H6 μ6} S6 => by
          refine ⟨A.trans (.of_sr S6), S6.keep Dn _ nb hD, ?_⟩
          exact Rps.stay (fun a o m e => ⟨S6.keep a o (fun z => m (.inl (S1.m0 a (S1.bm a z)))) e, m⟩) _ _ rs
        cases b with
        | false =>
          rw [if_neg (by decide)] at q5 ⊢
          obtain ⟨h1, h2, h3⟩ := back S5
          exact ⟨μ5, acc, xs, h1, h2, h3, q5⟩
        | true =>
          rw [if_pos rfl] at q5 ⊢
          refine ⟨⟨G.K, G.bx, fun a => M a ∨ a = Dn, H2, (G.pinL F).Fr⟩, _, σd4, μ5, _, hK, S5, q5, fun v H6 d μ6 S6 r6 q6 => ?_⟩
          obtain ⟨h1, h2, h3⟩ := back S6
          refine ⟨xs, h2, by rw [h3.len]; exact q6.1, μ6, acc ++ [d], xs ++ [v], ⟨fun a o hb e => by rw [upd_ne (ne_of_none e hn)]; exact h1.keep a o hb e, h1.blen, fun j a l e1 e2 => ?_⟩, upd_same, Rps.stay kDn _ _ (h3.app (.one r6)), q6.2⟩
          obtain ⟨ys, e3, r3⟩ := h1.box j a l e1 e2
          exact ⟨ys, by rw [upd_ne (bxne e1)]; exact e3, Rps.stay kDn _ _ r3⟩
    · have e : i = items.length := by omega
      subst e
      rw [List.drop_length] at q2
      have kM : Kp (fun a => M a ∨ a = Dn) M H2 H2 := fun a o m e => ⟨e, fun z => m (.inl z)⟩
      have A' : Aft G.K G.bx M H1 H2 μ2 := ⟨A.keep, A.blen, fun i a l e1 e2 => by obtain ⟨ys, h1, h2⟩ := A.box i a l e1 e2; exact ⟨ys, h1, Rps.stay kM _ _ h2⟩⟩
      exact .inl ⟨ok.stop ⟨G.K, G.bx, fun a => M a ∨ a = Dn, H2, (G.pinL F).Fr⟩ _ _ H2 _ μ2 rfl rfl mF S2, k (.ref Dn) H2 (.lst acc) μ2 (S1.unpinL.after A') ⟨Dn, xs, rfl, ⟨nM, hD⟩, Rps.stay kM _ _ rs⟩ q2⟩
theorem de_lc (hi : DI X tg iter ti) (hg : CG X.K (own.map (·.2)) g' g)
    (ht : ∃ tt', (∀ (s : Shared) (H : Hp) (C : Addr) (cl : List (Str × Addr)) (fp : List Addr), PTs (X.blk s H scope (compEnvC scope cl C X.env) fp) ifs tt') ∧
      ∀ (G : Gm) (M : Addr → Prop) (σ : St) (H : Hp) (σd : DSt) (μ : Mem) (Q : Bool → Mem → Prop) (R : Bool → Hp → Prop), G.K = X.K → SR G M σ H σd μ → tt σd μ Q → (∀ b H' μ', SR G M σ H' σd μ' → Q b μ' → R b H') → tt' σ H R)
    (he : ∀ (s : Shared) (H : Hp) (C : Addr) (cl : List (Str × Addr)) (fp : List Addr), DE (X.blk s H scope (compEnvC scope cl C X.env) fp) elt te)
    (hp : ∀ wi tt' te', PI X tg iter wi → (∀ (s : Shared) (H : Hp) (C : Addr) (cl : List (Str × Addr)) (fp : List Addr), PTs (X.blk s H scope (compEnvC scope cl C X.env) fp) ifs tt') →
      (∀ (s : Shared) (H : Hp) (C : Addr) (cl : List (Str × Addr)) (fp : List Addr), PE (X.blk s H scope (compEnvC scope cl C X.env) fp) elt te') → PE X (.ListComp elt [⟨tg, iter, ifs, 0⟩] scope pos) (tLc wi g' tt' te' (own.map (·.2)))) :
    DE X (.ListComp elt [⟨tg, iter, ifs, 0⟩] scope pos) (dLc ti g tt te (own.map (·.2))) := by
  obtain ⟨wi, p, h⟩ := hi.ex
  obtain ⟨tt', p2, h2⟩ := ht
  exact ⟨_, hp _ _ _ p p2 fun s H C cl fp => (he s H C cl fp).lift, lc_snd h hg h2⟩
theorem lcYes : ∃ tt', (∀ (s : Shared) (H : Hp) (C : Addr) (cl : List (Str × Addr)) (fp : List Addr), PTs (X.blk s H scope (compEnvC scope cl C X.env) fp) [] tt') ∧
      ∀ (G : Gm) (M : Addr → Prop) (σ : St) (H : Hp) (σd : DSt) (μ : Mem) (Q : Bool → Mem → Prop) (R : Bool → Hp → Prop), G.K = X.K → SR G M σ H σd μ → dYes σd μ Q → (∀ b H' μ', SR G M σ H' σd μ' → Q b μ' → R b H') → tt' σ H R :=
  ⟨tYes, fun _ _ _ _ _ => pts_nil, fun G M σ H σd μ Q R hK S q k => k _ _ _ S q⟩
theorem lcIf {c : Expr} {t : DTT} (h : ∀ (s : Shared) (H : Hp) (C : Addr) (cl : List (Str × Addr)) (fp : List Addr), DT (X.blk s H scope (compEnvC scope cl C X.env) fp) c t) : ∃ tt', (∀ (s : Shared) (H : Hp) (C : Addr) (cl : List (Str × Addr)) (fp : List Addr), PTs (X.blk s H scope (compEnvC scope cl C X.env) fp) [c] tt') ∧
      ∀ (G : Gm) (M : Addr → Prop) (σ : St) (H : Hp) (σd : DSt) (μ : Mem) (Q : Bool → Mem → Prop) (R : Bool → Hp → Prop), G.K = X.K → SR G M σ H σd μ → t σd μ Q → (∀ b H' μ', SR G M σ H' σd μ' → Q b μ' → R b H') → tt' σ H R :=
  ⟨liftT X.K t, fun s H C cl fp => pts_one (h s H C cl fp).lift, fun G M σ H σd μ Q R hK S q k => ⟨G, M, σd, μ, Q, hK, S, q, k⟩⟩
end
end DL

set_option maxRecDepth 100000
namespace DL
open PySem PySem.Spec PyProof.Rows L2
/-! ### the end: a law over D -/
/-- the script as the law gets it -/
def scr (ns : List Int) : D := .frz (ns.map D.int)
theorem law_core {P : Program} {w : World} {K : PySem.W.Frag} {mg mb : Str → Option Value} {k : Nat} {fa a : Addr} {fd : FuncData} {x : Str} {F : DSp} {s₁ : Shared} {vs : List Value} {ns : List Int}
    (KX : K.In s₁.heap) (gs : s₁.heap.Ns mainGlobals mg) (bs : s₁.heap.Ns builtinsNs mb) (hbb : ∀ x : Str, x ≠ "__name__" → mb x = bootBuiltins x) (lim : s₁.heap.NoLimit) (hg : s₁.gens = #[])
    (ha : s₁.heap.get? a = some { cls := .type "list", data := .seq vs.toArray }) (hr : Room k callerA)
    (Fn : ∀ base : Heap, K.In base → base.Ns mainGlobals mg → FnG P w K mg base k fa fd [x] (spD K F)) (hbind : ∀ (s : Shared) (u : Value), BindsTo s fd ⟨[u], []⟩ [(x, u)])
    (hF : ∀ Q : D → Mem → Prop, (∀ d μ, d = .bl true → Q d μ) → F [scr ns] [] Q) (H : Hp) (Hb : ∀ b u, H b = some u → b = a ∧ K.lookup a = none ∧ u = .frz { cls := .type "list", data := .seq vs.toArray } (.lst (ns.map V.int)))
    (ok0 : HOk P w H s₁.heap) (okS : OkF K (fun _ => False) H a (ns.map V.int)) :
    codeAny (model P w) callerA (.call (.ref fa) ⟨[.ref a], []⟩) (fun r s' => r = .ok (.ret (.bool true)) ∧ OldK s₁.heap s'.heap ∧ s'.os = s₁.os ∧ AllBare s'.gens) s₁ := by
  have nsK : ∀ {b : Addr} {m : Str → Option Value}, s₁.heap.Ns b m → (hidT s₁.heap H).Ns b m := fun {b m} h => by
    obtain ⟨o, es, ep, e, d, r⟩ := h
    refine ⟨o, es, ep, hidT_get e ?_, d, r⟩
    cases q : H b with
    | none => rfl
    | some u =>
      obtain ⟨z, _, _⟩ := Hb b u q
      subst z
      rw [ha] at e; cases e
      have d' : Data.seq vs.toArray _ = Data.dict es ep := d
      cases d'
  have kin : K.In (hidT s₁.heap H) := fun b o e => hidT_get (KX b o e) (by
    cases q : H b with
    | none => rfl
    | some u =>
      obtain ⟨z, z2, _⟩ := Hb b u q
      subst z
      rw [z2] at e; cases e)
  have md : Mod K mg (hidT s₁.heap H) := by
    obtain ⟨mc, h1, h2⟩ := lim
    exact ⟨kin, nsK gs, ⟨mb, nsK bs, hbb⟩, mc, nsK h1, h2⟩
  have e0 : Env0 P w K mg (hidT s₁.heap H) callerA [] s₁ H :=
    ⟨rfl, md, fun b o e => of_hidT e, Nat.le_of_eq (hidT_size _ _), trivial, fun b hb => absurd (show b ∈ ([] : List Addr) from hb) (by simp), ok0, .of_eq hg⟩
  have S0 : SR ⟨K, [], fun _ => False, H, []⟩ (fun _ => False) [] H [] [] :=
    ⟨rfl, fun i d e => by simp at e, fun i j p l l' e => by simp at e, rfl, fun i a l e => by simp at e, fun _ _ _ e => e, fun _ m => m, fun _ z => (nomatch z), fun _ m => m.elim, List.nodup_nil, fun _ z => (nomatch z), fun _ m => m.elim⟩
  have rs : Rps K [] (fun _ => False) H [scr ns] [.ref a] := ⟨_, _, rfl, ⟨a, ns.map V.int, rfl, okS, Rps.of_ints ns⟩, rfl⟩
  have sp : spD K F [.ref a] H (fun v H' => v = .bl true ∧ Aft K [] (fun _ => False) H H' []) E0 := by
    refine ⟨[], fun _ => False, [scr ns], [], fun d _ => d = .bl true, S0, rs, hF _ (fun d μ e => e), fun v H' d μ' A r q => ?_⟩
    subst q
    have : μ' = [] := List.length_eq_zero_iff.mp A.blen
    subst this
    exact ⟨r, A⟩
  refine codeAny_mono ((Fn _ kin (nsK gs)).does callerA [] s₁ H ⟨[.ref a], []⟩ [.ref a] [.ref a] _ E0 rfl hr e0 (hbind s₁ (.ref a)) (.cons rfl .nil) sp) ?_
  intro res s' h
  match res, h with
  | .ok (.ret u), ⟨v, H', os, bare, un, hok', r', q⟩ =>
    obtain ⟨q, A⟩ := q
    subst q
    obtain rfl : u = Value.bool true := r'
    refine ⟨rfl, OldK.of_keep fun b o e => ?_, os, bare⟩
    cases qb : H b with
    | none => exact un.keep b o e qb (by intro z; exact absurd (show b ∈ ([] : List Addr) from z) (by simp)) (by simp)
    | some ub =>
      obtain ⟨z, _, z2⟩ := Hb b ub qb
      subst z z2
      have := A.keep b _ (by simp) qb
      obtain ⟨e2, _⟩ := hok' b _ this
      rw [ha] at e; cases e
      exact e2
  | .ok .next, h => exact (show False from h).elim
  | .ok .brk, h => exact (show False from h).elim
  | .ok .cont, h => exact (show False from h).elim
  | .error e, h => exact (show False from h).elim
theorem law_callG {P : Program} {w : World} {K : PySem.W.Frag} {mg mb : Str → Option Value} {k : Nat} {fa a : Addr} {fd : FuncData} {x : Str} {F : DSp} {s₁ : Shared} {vs : List Value} {ns : List Int}
    (KX : K.In s₁.heap) (gs : s₁.heap.Ns mainGlobals mg) (bs : s₁.heap.Ns builtinsNs mb) (hbb : ∀ x : Str, x ≠ "__name__" → mb x = bootBuiltins x) (lim : s₁.heap.NoLimit) (hg : s₁.gens = #[])
    (ha : s₁.heap.get? a = some { cls := .type "list", data := .seq vs.toArray }) (hi : IntsAre vs ns) (hl : ns.length ≤ sizeLine) (hr : Room k callerA)
    (Fn : ∀ base : Heap, K.In base → base.Ns mainGlobals mg → FnG P w K mg base k fa fd [x] (spD K F)) (hbind : ∀ (s : Shared) (u : Value), BindsTo s fd ⟨[u], []⟩ [(x, u)])
    (hF : ∀ Q : D → Mem → Prop, (∀ d μ, d = .bl true → Q d μ) → F [scr ns] [] Q) :
    codeAny (model P w) callerA (.call (.ref fa) ⟨[.ref a], []⟩) (fun r s' => r = .ok (.ret (.bool true)) ∧ OldK s₁.heap s'.heap ∧ s'.os = s₁.os ∧ AllBare s'.gens) s₁ := by
  have rv := vals_of_ints hi
  cases hka : K.lookup a with
  | some o =>
    have e := KX a o hka
    rw [ha] at e
    cases e
    exact law_core KX gs bs hbb lim hg ha hr Fn hbind hF (fun _ => none) (fun b u z => nomatch z) (fun b u z => nomatch z) (.inr (.inr ⟨_, vs.toArray, _, hka, rfl, rfl, rfl, by rw [List.size_toArray, hi.length]; exact hl, by simpa using rv⟩))
  | none =>
    refine law_core KX gs bs hbb lim hg ha hr Fn hbind hF (fun b => if b = a then some (.frz { cls := .type "list", data := .seq vs.toArray } (.lst (ns.map V.int))) else none) (fun b u z => ?_) (fun b u z => ?_) (.inl ⟨fun z => z, _, if_pos rfl⟩)
    · by_cases hb : b = a
      · have z := (if_pos hb).symm.trans z
        cases z; exact ⟨hb, hka, rfl⟩
      · have z := (if_neg hb).symm.trans z
        cases z
    · by_cases hb : b = a
      · have z := (if_pos hb).symm.trans z
        cases z; subst hb
        exact ⟨ha, by rw [List.length_map]; exact hl, vs, _, rv, ha⟩
      · have z := (if_neg hb).symm.trans z
        cases z
theorem walk_D {l : PySem.W.OpenLaw} {n k : Nat} {q : Program} {loose : List Str} {XP : (Str → Option Value) → Heap → Prop} {YP : World → Heap → Prop} {d : DefRec} {K : Params → PySem.W.Frag} {F : DSp} {x : Str}
    (hn : l.most = some n) (hn2 : n ≤ sizeLine) (hdf : d.params.defaults = []) (hr : Room k callerA)
    (hY : ∀ (w : World) (h : Heap), YP w h → (K w.params).In h)
    (Fn : ∀ (w : World) (mg : Str → Option Value) (fa : Addr) (h : Heap), (K w.params).In h → h.Ns mainGlobals mg → mg d.name = some (.ref fa) →
      ∃ fd : FuncData, (∀ (s : Shared) (u : Value), BindsTo s fd ⟨[u], []⟩ [(x, u)]) ∧
        ∀ base : Heap, (K w.params).In base → base.Ns mainGlobals mg → FnG l.prog w (K w.params) mg base k fa fd [x] (spD (K w.params) F))
    (hF : ∀ (ns : List Int), ns.length ≤ n → ∀ Q : D → Mem → Prop, (∀ d μ, d = .bl true → Q d μ) → F [scr ns] [] Q) :
    PySem.W.WalkO q loose XP YP l.row.toRowW d [] (fun f vs => PySem.call f vs) := by
  apply Att.attach_call hn hdf
  intro w s₀ s₁ mg mb fa o pm cd doc a vs ns G Y ho hd hcd hmg hobj hints hlen hg
  have KX := hY w _ Y
  obtain ⟨fd, hb, hFn⟩ := Fn w mg fa _ KX G.T.g hmg
  exact law_callG KX G.T.g G.T.b G.T.builtins G.T.nolimit hg hobj hints (Nat.le_trans hlen hn2) hr hFn hb (hF ns hlen)
end DL

set_option maxRecDepth 100000
namespace DL
open PySem PySem.Spec L2
section
variable {X : Cx} {elt tg iter : Expr} {ifs : List Expr} {scope : Scope} {own : List (Str × Nat)} {pos spos py : Pos} {ti : DTI} {g' : TG} {g : DTG} {tt : DTT} {te : DTE} {y : Str} {i : Nat}
theorem ds_setLc (hi : DI X tg iter ti) (hg : CG X.K (own.map (·.2)) g' g)
    (ht : ∃ tt', (∀ (s : Shared) (H : Hp) (C : Addr) (cl : List (Str × Addr)) (fp : List Addr), PTs (X.blk s H scope (compEnvC scope cl C X.env) fp) ifs tt') ∧
      ∀ (G : Gm) (M : Addr → Prop) (σ : St) (H : Hp) (σd : DSt) (μ : Mem) (Q : Bool → Mem → Prop) (R : Bool → Hp → Prop), G.K = X.K → SR G M σ H σd μ → tt σd μ Q → (∀ b H' μ', SR G M σ H' σd μ' → Q b μ' → R b H') → tt' σ H R)
    (he : ∀ (s : Shared) (H : Hp) (C : Addr) (cl : List (Str × Addr)) (fp : List Addr), DE (X.blk s H scope (compEnvC scope cl C X.env) fp) elt te)
    (hp : ∀ wi tt' te', PI X tg iter wi → (∀ (s : Shared) (H : Hp) (C : Addr) (cl : List (Str × Addr)) (fp : List Addr), PTs (X.blk s H scope (compEnvC scope cl C X.env) fp) ifs tt') →
      (∀ (s : Shared) (H : Hp) (C : Addr) (cl : List (Str × Addr)) (fp : List Addr), PE (X.blk s H scope (compEnvC scope cl C X.env) fp) elt te') → PS X (.Assign [.Name y py] (.ListComp elt [⟨tg, iter, ifs, 0⟩] scope pos) spos) (tAsg (tLc wi g' tt' te' (own.map (·.2))) (gName i))) :
    DS X (.Assign [.Name y py] (.ListComp elt [⟨tg, iter, ifs, 0⟩] scope pos) spos) (dAsg (dLc ti g tt te (own.map (·.2))) (dgName i)) := by
  obtain ⟨wi, p, h⟩ := hi.ex
  obtain ⟨tt', p2, h2⟩ := ht
  refine ⟨_, hp _ _ (liftE X.K te) p p2 fun s H C cl fp => (he s H C cl fp).lift, fun G M σ H σd μ De E hK S q L => ?_⟩
  exact lc_snd h hg h2 G M σ H σd μ _ _ hK S q fun v H' d μ' S' r' q' => L.nx _ _ _ _ _ (S'.set i r') q'
end
/-! ### the defs of a text -/
/-- the def st stands at its name -/
def Dfn (K : PySem.W.Frag) (mg : Str → Option Value) (x : Str) (st : Stmt) (ps : List Str) : Prop :=
  ∃ (f : Addr) (fd : FuncData), mg x = some (.ref f) ∧ Fun K x x st f fd ∧ ∀ us : List Value, us.length = ps.length → bindArgs fd ⟨us, []⟩ = pure (ps.zip us)
/-- it keeps a promise -/
def Has (P : Program) (w : World) (K : PySem.W.Frag) (mg : Str → Option Value) (base : Heap) (k : Nat) (x : Str) (ps : List Str) (F : DSp) : Prop :=
  ∃ (f : Addr) (fd : FuncData), mg x = some (.ref f) ∧ PySem.W.keepIn K (.ref f) = true ∧ (∃ oc od osl, K.lookup f = some ⟨oc, od, .func fd, osl⟩) ∧ (∀ us : List Value, us.length = ps.length → bindArgs fd ⟨us, []⟩ = pure (ps.zip us)) ∧ FnG P w K mg base k f fd ps (spD K F)
section
variable {P : Program} {w : World} {K : PySem.W.Frag} {mg : Str → Option Value} {base : Heap}
theorem okH {x : Str} {st : Stmt} {N ps : List Str} {k : Nat} {F : DSp} {t : DTS} (D0 : Dfn K mg x st ps) (S : FnScope N ps (defScope st)) (cnt : ∀ ds μ Gd, F ds μ Gd → ds.length = ps.length)
    (bd : ∀ (f : Addr) (cdv : Value) (A : Around) (out : List Env) (s : Shared) (H : Hp) (E : XK), (bX P w K mg base N x st f cdv A out s H E).A.guards = some [] → Room k (bX P w K mg base N x st f cdv A out s H E).A →
      DSs (bX P w K mg base N x st f cdv A out s H E) (defBody st) t) (ht : ∀ ds μ Gd, F ds μ Gd → t { nx := fun _ μ' => Gd .non μ', rt := Gd } (startD N.length ds) μ) : Has P w K mg base (k + 1) x ps F := by
  obtain ⟨f, fd, g1, Fu, b1⟩ := D0
  obtain ⟨oc, od, kV, doc, pm, an, cdv, ct, osl, e1, l1, c1⟩ := Fu.ex
  exact ⟨f, fd, g1, Fu.kp, ⟨oc, od, osl, l1⟩, b1, okD Fu S cnt fun cdv A out s H E hg hr => ⟨t, bd f cdv A out s H E hg hr, ht⟩⟩
theorem Has.up {j k : Nat} {x : Str} {ps : List Str} {F : DSp} (h : Has P w K mg base j x ps F) (hk : j ≤ k) : Has P w K mg base k x ps F := by
  obtain ⟨f, fd, a, b, l, c, d⟩ := h
  exact ⟨f, fd, a, b, l, c, d.up hk⟩
end
theorem de_callH {X : Cx} {pos : Pos} {e : Expr} {k : Nat} {ps : List Str} {F : DSp} {x : Str} {p : Pos} {es : List Expr} {tr : DTA} (Hs : Has X.prog X.w X.K X.mg X.base k x ps F) (hg : X.A.guards = some []) (hr : Room k X.A) (gl : Gl X x)
    (ha : DA X (e :: es) tr) (hdb : (x == ("__debug__" : Str)) = false := by decide) (he : starEach (e :: es) X.env = (false, eval e X.env) :: starEach es X.env := by rfl) (hpl : (backTo pos (starEach es X.env)).any (·.1) = false := by rfl) :
    DE X (.Call (.Name x p) (e :: es) [] pos) (dCall F tr) := by
  obtain ⟨f, fd, hm, hk, _, hb, Fn⟩ := Hs
  exact de_call Fn hg hr gl hm hk (.all hb) ha hdb he hpl
theorem walk_H {l : PySem.W.OpenLaw} {n k : Nat} {q : Program} {loose : List Str} {XP : (Str → Option Value) → Heap → Prop} {YP : World → Heap → Prop} {d : PySem.DefRec} {K : Params → PySem.W.Frag} {F : DSp} {x : Str}
    (hn : l.most = some n) (hn2 : n ≤ sizeLine) (hdf : d.params.defaults = []) (hr : Room k PySem.callerA)
    (hY : ∀ (w : World) (h : Heap), YP w h → (K w.params).In h)
    (Fn : ∀ (w : World) (mg : Str → Option Value) (h : Heap), (K w.params).In h → h.Ns mainGlobals mg → ∀ base : Heap, (K w.params).In base → base.Ns mainGlobals mg → Has l.prog w (K w.params) mg base k d.name [x] F)
    (Df : ∀ (w : World) (mg : Str → Option Value) (h : Heap), (K w.params).In h → h.Ns mainGlobals mg → ∃ st, Dfn (K w.params) mg d.name st [x])
    (hF : ∀ (ns : List Int), ns.length ≤ n → ∀ Q : D → Mem → Prop, (∀ d μ, d = .bl true → Q d μ) → F [scr ns] [] Q) :
    PySem.W.WalkO q loose XP YP l.row.toRowW d [] (fun f vs => PySem.call f vs) := by
  refine walk_D (x := x) hn hn2 hdf hr hY (fun w mg fa h KX G hm => ?_) hF
  obtain ⟨st, f, fd, g1, Fu, b1⟩ := Df w mg h KX G
  rw [hm] at g1
  cases g1
  refine ⟨fd, fun s u => .of_eq (b1 [u] rfl), fun base kb gb => ?_⟩
  obtain ⟨f2, fd2, g2, k2, ⟨oc2, od2, osl2, l2⟩, b2, Fn2⟩ := Fn w mg h KX G base kb gb
  rw [hm] at g2
  cases g2
  obtain ⟨oc, od, kV, doc, pm, an, cdv, ct, osl, e1, l1, _⟩ := Fu.ex
  -- the same object: one function
  have same : fd = fd2 := by
    rw [l1] at l2
    injection l2 with l2
    injection l2 with _ _ l2 _
    injection l2
  rw [same]
  exact Fn2
theorem walk_T {l : PySem.W.OpenLaw} {n k : Nat} {q : Program} {loose : List Str} {XP : (Str → Option Value) → Heap → Prop} {YP : World → Heap → Prop} {d : PySem.DefRec} {K : Params → PySem.W.Frag} {F : DSp} {x : Str} {TX : PySem.W.Frag → (Str → Option Value) → Prop}
    (hn : l.most = some n) (hn2 : n ≤ sizeLine) (hdf : d.params.defaults = []) (hr : Room k PySem.callerA)
    (hY : ∀ (w : World) (h : Heap), YP w h → (K w.params).In h)
    (Fn : ∀ (w : World) (K : PySem.W.Frag) (mg : Str → Option Value) (base : Heap), TX K mg → Has l.prog w K mg base k d.name [x] F)
    (Df : ∀ (K : PySem.W.Frag) (mg : Str → Option Value), TX K mg → ∃ st, Dfn K mg d.name st [x])
    (mk : ∀ (w : World) (mg : Str → Option Value) (h : Heap), (K w.params).In h → h.Ns mainGlobals mg → TX (K w.params) mg)
    (hF : ∀ (ns : List Int), ns.length ≤ n → ∀ Q : D → Mem → Prop, (∀ d μ, d = .bl true → Q d μ) → F [scr ns] [] Q) :
    PySem.W.WalkO q loose XP YP l.row.toRowW d [] (fun f vs => PySem.call f vs) :=
  walk_H hn hn2 hdf hr hY (fun w mg h KX G base _ _ => Fn w _ mg base (mk w mg h KX G)) (fun w mg h KX G => Df _ mg (mk w mg h KX G)) hF
end DL

set_option maxRecDepth 100000
namespace DL
open PySem PySem.Spec L2
/-! ### the deck: the one object of a law that changes -/
def iabs (n : Int) : Int := if n < 0 then -n else n
/-- a list of the script's absolute cells, and 0 -/
def F_L_deck : DSp := fun ds μ Gd => ∃ ns : List Int, ds = [scr ns] ∧ ns.length ≤ 63 ∧ μ = [] ∧ Gd (.lst [.lst ((ns.map iabs).map D.int), .int 0]) []
/-- x = _law_deck(script), ahead of the rest of the law -/
def dDeck (i s : Nat) (u : DTS) : DTS := fun De σd μ => ∃ ns : List Int, σd[s]? = some (some (scr ns)) ∧ ns.length ≤ 63 ∧ μ = [] ∧ i ≠ s ∧
  u { nx := fun _ _ => False, rt := fun d _ => ∃ b, d = .bl b ∧ De.rt d [] } (((σd.map fun _ => none).set s (some (scr ns))).set i (some (.box 0))) [[.box 1, .int 0], (ns.map iabs).map D.int]
theorem dss_deck {X : Cx} {i s k : Nat} {x y : Str} {px py p pos pos' : Pos} {rest : List Stmt} {u : DTS} (Hs : Has X.prog X.w X.K X.mg X.base k "_law_deck" ["_law_script"] F_L_deck) (hg : X.A.guards = some []) (hr : Room k X.A)
    (hu : DSs X rest u) (hp : ∀ sp : TE, PE X (.Call (.Name "_law_deck" p) [.Name y py] [] pos) sp → PS X (.Assign [.Name x px] (.Call (.Name "_law_deck" p) [.Name y py] [] pos) pos') (tAsg sp (gName i)))
    (hc : ∀ (f : Addr) (fd : FuncData), X.mg "_law_deck" = some (.ref f) → PySem.W.keepIn X.K (.ref f) = true → Binds X.K fd ["_law_script"] [] → FnG X.prog X.w X.K X.mg X.base k f fd ["_law_script"] (spD X.K F_L_deck) →
      PE X (.Call (.Name "_law_deck" p) [.Name y py] [] pos) (fun σ H Q => tCons (tVar s) tNil σ H fun vs H1 => spD X.K F_L_deck vs H1 Q E0)) :
    DSs X (.Assign [.Name x px] (.Call (.Name "_law_deck" p) [.Name y py] [] pos) pos' :: rest) (dDeck i s u) := by
  obtain ⟨f, fd, hm, hk, _, hb, Fn⟩ := Hs
  obtain ⟨ts, pr, snd⟩ := hu.ex
  refine ⟨_, pss_cons (hp _ (hc f fd hm hk (.all hb) Fn)) pr, fun G M σ H σd μ De E hK S q L => ?_⟩
  obtain ⟨ns, e1, hl, rfl, his, q⟩ := q
  obtain ⟨v, ev, rv⟩ := S.slot s _ e1
  have rv : Rp G.K G.bx M H (scr ns) v := rv
  have b0 : G.bx = [] := List.length_eq_zero_iff.mp (by rw [← S.blen]; rfl)
  refine ⟨v, ev, ?_⟩
  obtain ⟨sa, sxs, rfl, oS, rS⟩ := rv
  let M1 : Addr → Prop := fun a => (∃ o, H a = some o) ∧ ¬ (a = sa ∧ ∃ o u, H sa = some (.frz o u))
  have oS1 : OkF G.K M1 H sa sxs := by
    rcases oS with ⟨m, o, e⟩ | w
    · exact .inl ⟨fun z => z.2 ⟨rfl, o, _, e⟩, o, e⟩
    · exact .inr w
  have eI := rS.ints
  subst eI
  have oS1' : OkF X.K M1 H sa (ns.map V.int) := by rw [← hK]; exact oS1
  refine ⟨[], M1, [scr ns], [], fun d μ' => d = .lst [.lst ((ns.map iabs).map D.int), .int 0], ?_, ?_, ⟨ns, rfl, hl, rfl, rfl⟩, fun v' H' d μ' A r e => ?_⟩
  · exact ⟨rfl, fun i d e => by simp at e, fun i j p l l' e => by simp at e, rfl, fun i a l e => by simp at e, fun _ _ _ e => e, fun _ m => m, fun _ z => (nomatch z), fun _ m => m.1, List.nodup_nil, fun _ z => (nomatch z), fun _ m => m.1⟩
  · exact ⟨_, _, rfl, ⟨sa, ns.map V.int, rfl, oS1', Rps.of_ints ns⟩, rfl⟩
  subst e
  obtain ⟨pa, xs, rfl, ⟨np, hpa⟩, r⟩ := r
  obtain ⟨v1, xr, rfl, r1, r2⟩ := r
  obtain ⟨v2, xr, rfl, r2, r3⟩ := r2
  cases (show xr = [] from r3)
  have r2 : v2 = .int 0 := r2
  subst r2
  obtain ⟨pb, ys, rfl, ⟨nq, hpb⟩, rI⟩ := r1
  have eJ := rI.ints
  subst eJ
  have old : ∀ a o, H a = some o → H' a = some o := fun a o e => A.keep a o (by simp) e
  -- both lists are new
  have fresh : ∀ {a : Addr} {zs : List V}, ¬ M1 a → H' a = some (.lst zs) → H a = none := fun {a zs} nm e => by
    cases q : H a with
    | none => rfl
    | some o =>
      obtain ⟨es, ob, u, e2⟩ := Classical.byContradiction fun z : ¬ (a = sa ∧ ∃ o u, H sa = some (.frz o u)) => nm ⟨⟨o, q⟩, z⟩
      subst es
      have := old _ _ e2
      rw [e] at this; cases this
  have fa := fresh np hpa
  have fb := fresh nq hpb
  have nab : pa ≠ pb := fun z => by
    subst z
    rw [hpa] at hpb
    have e := HO.lst.inj (Option.some.inj hpb)
    cases ns with
    | nil => cases e
    | cons n r => cases e
  let Md : Addr → Prop := fun a => a = pa ∨ a = pb
  let G' : Gm := ⟨G.K, [pa, pb], Md, H', []⟩
  have li : ∀ j d, (((σd.map fun _ => (none : Option D)).set s (some (scr ns))).set i (some (.box 0)))[j]? = some (some d) → (j = i ∧ d = .box 0) ∨ (j = s ∧ j ≠ i ∧ d = scr ns) := fun j d e => by
    by_cases hj : j = i
    · subst hj
      have hl := (List.getElem?_eq_some_iff.mp e).1
      rw [List.length_set] at hl
      rw [List.getElem?_set_self hl] at e
      cases e; exact .inl ⟨rfl, rfl⟩
    · rw [List.getElem?_set_ne (Ne.symm hj)] at e
      by_cases hs : j = s
      · subst hs
        have hl := (List.getElem?_eq_some_iff.mp e).1
        rw [List.length_set] at hl
        rw [List.getElem?_set_self hl] at e
        cases e; exact .inr ⟨rfl, hj, rfl⟩
      · rw [List.getElem?_set_ne (Ne.symm hs), List.getElem?_map] at e
        cases q : σd[j]? with
        | none => rw [q] at e; cases e
        | some z => rw [q] at e; cases e
  have S' : SR G' Md (σ.set i (some (.ref pa))) H' (((σd.map fun _ => none).set s (some (scr ns))).set i (some (.box 0))) [[.box 1, .int 0], (ns.map iabs).map D.int] := by
    refine ⟨by simp [S.len], fun j d e => ?_, fun j j' p l l' e1 => ?_, rfl, fun j a l e1 e2 => ?_, fun _ _ _ e => e, fun _ m => m, fun _ z => (nomatch z), fun a m => ?_, List.nodup_cons.mpr ⟨fun z => nab (List.mem_singleton.mp z), List.nodup_cons.mpr ⟨fun z => (nomatch z), List.nodup_nil⟩⟩, fun a m => ?_, fun a m => ?_⟩
    · rcases li j d e with ⟨rfl, rfl⟩ | ⟨rfl, hj, rfl⟩
      · have hl : j < σ.length := by
          have := (List.getElem?_eq_some_iff.mp e).1
          rw [S.len]; simpa using this
        exact ⟨.ref pa, by rw [List.getElem?_set_self hl], pa, rfl, rfl⟩
      · refine ⟨.ref sa, by rw [List.getElem?_set_ne (Ne.symm hj)]; exact ev, sa, ns.map V.int, rfl, ?_, Rps.of_ints ns⟩
        rcases oS1 with ⟨_, o, e2⟩ | w
        · refine .inl ⟨fun z => ?_, o, old _ _ e2⟩
          rcases z with z | z
          · rw [z, fa] at e2; cases e2
          · rw [z, fb] at e2; cases e2
        · exact .inr w
    · rcases li j _ e1 with ⟨_, z⟩ | ⟨_, _, z⟩ <;> cases z
    · match j, e1, e2 with
      | 0, e1, e2 =>
        cases e1; cases e2
        exact ⟨_, hpa, .ref pb, [.int 0], rfl, ⟨pb, rfl, rfl⟩, .int 0, [], rfl, rfl, rfl⟩
      | 1, e1, e2 =>
        cases e1; cases e2
        exact ⟨_, hpb, Rps.of_ints _⟩
      | j + 2, e1, e2 => exact nomatch (show (none : Option Addr) = some a from e1)
    · rcases m with rfl | rfl
      · exact ⟨_, hpa⟩
      · exact ⟨_, hpb⟩
    · rcases List.mem_cons.mp (show a ∈ [pa, pb] from m) with z | z
      · exact .inl z
      · exact .inr (List.mem_singleton.mp z)
    · rcases m with rfl | rfl
      · exact ⟨_, hpa⟩
      · exact ⟨_, hpb⟩
  refine snd G' Md _ H' _ _ _ _ hK S' q ⟨fun _ _ _ _ _ _ z => z.elim, fun M2 σ2 H2 σd2 μ2 v2 d2 S2 r2 q2 => ?_, fun _ _ _ _ _ _ z => z.elim, fun _ _ _ _ _ _ z => z.elim⟩
  obtain ⟨b, rfl, q2⟩ := q2
  have k2 : ∀ a o, H a = some o → H2 a = some o := fun a o e => S2.keep a o (fun z => by
    rcases List.mem_cons.mp (show a ∈ [pa, pb] from z) with z | z
    · rw [z, fa] at e; cases e
    · rw [List.mem_singleton.mp z, fb] at e; cases e) (old a o e)
  have SF : SR G G.M0 [] H2 [] [] := by
    refine ⟨rfl, fun i d e => by simp at e, fun i j p l l' e => by simp at e, by rw [b0]; rfl, fun i a l e => by rw [b0] at e; simp at e, fun a o h1 h2 => k2 a o (S.keep a o h1 h2), fun _ m => m, fun qf hq => ?_, fun a m => ?_, S.nd, S.bm, S.m0t⟩
    · exact Rp.stay (fun a o m e => ⟨k2 a o e, fun z => m (S.m0 a z)⟩) _ _ (S.fr qf hq)
    · obtain ⟨o, e⟩ := S.mt a (S.m0 a m)
      exact ⟨o, k2 a o e⟩
  exact L.rt G.M0 [] H2 [] [] v2 (.bl b) SF r2 q2
end DL

set_option maxRecDepth 100000
namespace DL
open PySem PySem.Spec L2
/-! ### one step of a reading at a time -/
section
variable {σ : DSt} {μ : Mem} {Q : D → Mem → Prop} {De : DEnds} {ta tb tc : DTE} {u u' : DTS} {rd rd' : DR2} {tr : DTA} {QA : List D → Mem → Prop} {QT : Bool → Mem → Prop} {tt tt' : DTT}
theorem e_seq (h : u { De with nx := u' De } σ μ) : dSeq u u' De σ μ := h
theorem e_next (h : De.nx σ μ) : dNext De σ μ := h
theorem e_break (h : De.bk σ μ) : dBreak De σ μ := h
theorem e_cont (h : De.ct σ μ) : dCont De σ μ := h
theorem e_asg {g : DTG} (h : ta σ μ fun x μ1 => g x σ μ1 De.nx) : dAsg ta g De σ μ := h
theorem e_ret (h : ta σ μ De.rt) : dRet ta De σ μ := h
theorem e_retN (h : De.rt .non μ) : dRetN De σ μ := h
theorem e_drop (h : ta σ μ fun _ μ1 => De.nx σ μ1) : dDrop ta De σ μ := h
theorem e_ifS {c : DTT} (h : c σ μ fun b μ1 => if b = true then u De σ μ1 else u' De σ μ1) : dIfS c u u' De σ μ := h
theorem e_par {i j : Nat} (h : tr σ μ fun ds μ1 => ∃ v w, ds = [v, w] ∧ De.nx ((σ.set i (some v)).set j (some w)) μ1) : dPar i j tr De σ μ := h
theorem e_par2 {v w : D} {R : D → D → Prop} (h : R v w) : ∃ v' w', [v, w] = [v', w'] ∧ R v' w' := ⟨v, w, rfl, h⟩
theorem e_par3 {i j l : Nat} (h : tr σ μ fun ds μ1 => ∃ u v w, ds = [u, v, w] ∧ De.nx (((σ.set i (some u)).set j (some v)).set l (some w)) μ1) : dPar3 i j l tr De σ μ := h
theorem e_par33 {v w z : D} {R : D → D → D → Prop} (h : R v w z) : ∃ v' w' z', [v, w, z] = [v', w', z'] ∧ R v' w' z' := ⟨v, w, z, rfl, h⟩
theorem e_gname {i : Nat} {d : D} {R : DSt → Mem → Prop} (h : R (σ.set i (some d)) μ) : dgName i d σ μ R := h
theorem e_gseqT {n : Nat} {l : List D} {t : DTGs} {R : DSt → Mem → Prop} (hl : l.length = n) (h : t l σ μ R) : dgSeq n t (.tup l) σ μ R := ⟨l, rfl, hl, h⟩
theorem e_gseqL {n : Nat} {l : List D} {t : DTGs} {R : DSt → Mem → Prop} (hl : l.length = n) (h : t l σ μ R) : dgSeq n t (.lst l) σ μ R := ⟨l, rfl, hl, h⟩
theorem e_gcons {d : D} {r : List D} {t : DTG} {v : DTGs} {R : DSt → Mem → Prop} (h : t d σ μ fun σ' μ' => v r σ' μ' R) : dgCons t v (d :: r) σ μ R := ⟨d, r, rfl, h⟩
theorem e_gnil {R : DSt → Mem → Prop} (h : R σ μ) : dgNil [] σ μ R := ⟨rfl, h⟩
theorem e_var {i : Nat} {d : D} (h1 : σ[i]? = some (some d)) (h2 : d.fz = true) (h : Q d μ) : dVar i σ μ Q := ⟨d, h1, h2, h⟩
theorem e_c {d : D} (h : Q d μ) : dC d σ μ Q := h
theorem e_op (h : ta σ μ fun x μ1 => tb σ μ1 fun y μ2 => rd x y μ2 Q) : dOp rd ta tb σ μ Q := h
theorem e_un {r : D → Mem → (D → Mem → Prop) → Prop} (h : ta σ μ fun x μ1 => r x μ1 Q) : dUn r ta σ μ Q := h
theorem e_neg {i : Int} (h : Q (.int (-i)) μ) : dNeg (.int i) μ Q := ⟨i, rfl, h⟩
theorem e_nil (h : QA [] μ) : dNil σ μ QA := h
theorem e_cons (h : ta σ μ fun x μ1 => tr σ μ1 fun xs μ2 => QA (x :: xs) μ2) : dCons ta tr σ μ QA := h
theorem e_tup (h : tr σ μ fun ds μ1 => ds.length ≤ sizeLine ∧ Q (.tup ds) μ1) : dTup tr σ μ Q := h
theorem e_lst (h : tr σ μ fun ds μ1 => ds.length ≤ sizeLine ∧ Q (.lst ds) μ1) : dLst tr σ μ Q := h
theorem e_and {p q : Prop} (hp : p) (hq : q) : p ∧ q := ⟨hp, hq⟩
theorem e_cb {rc : DRC} (h : tr σ μ fun ds μ1 => rc ds μ1 Q) : dCB rc tr σ μ Q := h
theorem e_call {F : DSp} (h : tr σ μ fun ds μ1 => F ds μ1 Q) : dCall F tr σ μ Q := h
theorem e_ifE {t : DTT} (h : t σ μ fun c μ1 => if c = true then ta σ μ1 Q else tb σ μ1 Q) : dIf t ta tb σ μ Q := h
theorem e_test (h : ta σ μ fun x μ' => ∃ k, x = .bl k ∧ QT k μ') : dTest ta σ μ QT := h
theorem e_bl {k : Bool} {R : Bool → Prop} (h : R k) : ∃ k', D.bl k = D.bl k' ∧ R k' := ⟨k, rfl, h⟩
theorem e_notT (h : tt σ μ fun c μ1 => QT (!c) μ1) : dNotT tt σ μ QT := h
theorem e_andT (h : tt σ μ fun c μ1 => if c = true then tt' σ μ1 QT else QT false μ1) : dAndT tt tt' σ μ QT := h
theorem e_orT (h : tt σ μ fun c μ1 => if c = true then QT true μ1 else tt' σ μ1 QT) : dOrT tt tt' σ μ QT := h
theorem e_andV (h : ta σ μ fun x μ1 => ∃ c, x = .bl c ∧ if c = true then tb σ μ1 Q else Q (.bl false) μ1) : dAndV ta tb σ μ Q := h
theorem e_orV (h : ta σ μ fun x μ1 => ∃ c, x = .bl c ∧ if c = true then Q (.bl true) μ1 else tb σ μ1 Q) : dOrV ta tb σ μ Q := h
theorem e_notV (h : ta σ μ fun x μ1 => ∃ c, x = .bl c ∧ Q (.bl (!c)) μ1) : dNotV ta σ μ Q := h
theorem e_chain (h : ta σ μ fun x μ1 => tb σ μ1 fun y μ2 => rd x y μ2 fun z μ3 => ∃ k, z = .bl k ∧ if k = true then tc σ μ3 fun w μ4 => rd' y w μ4 Q else Q (.bl false) μ3) : dChain rd rd' ta tb tc σ μ Q := h
/-! branches -/
theorem e_if {p : Prop} [Decidable p] {A B : Prop} (h1 : p → A) (h2 : ¬ p → B) : if decide p = true then A else B := by
  by_cases h : p
  · rw [if_pos (decide_eq_true h)]; exact h1 h
  · rw [if_neg (by rw [decide_eq_false h]; decide)]; exact h2 h
theorem e_ifT {b : Bool} {A B : Prop} (hb : b = true) (h : A) : if b = true then A else B := by rw [if_pos hb]; exact h
theorem e_ifF {b : Bool} {A B : Prop} (hb : b = false) (h : B) : if b = true then A else B := by rw [if_neg (by rw [hb]; decide)]; exact h
theorem e_ifB {b : Bool} {A B : Prop} (h1 : b = true → A) (h2 : b = false → B) : if b = true then A else B := by
  cases b with
  | true => rw [if_pos rfl]; exact h1 rfl
  | false => rw [if_neg (by decide)]; exact h2 rfl
/-! operators -/
theorem e_addI {i j : Int} (h : Q (.int (i + j)) μ) : dAdd (.int i) (.int j) μ Q := .inl ⟨i, j, rfl, rfl, h⟩
theorem e_addL {x y : D} {l m : List D} (h1 : rawOf μ x = some l) (h2 : rawOf μ y = some m) (hl : l.length + m.length ≤ sizeLine) (h : Q (.lst (l ++ m)) μ) : dAdd x y μ Q := .inr (.inl ⟨l, m, h1, h2, hl, h⟩)
theorem e_addT {l m : List D} (hl : l.length + m.length ≤ sizeLine) (h : Q (.tup (l ++ m)) μ) : dAdd (.tup l) (.tup m) μ Q := .inr (.inr ⟨l, m, rfl, rfl, hl, h⟩)
theorem e_sub {i j : Int} (h : Q (.int (i - j)) μ) : dSub (.int i) (.int j) μ Q := ⟨i, j, rfl, rfl, h⟩
theorem e_mulI {i j : Int} (c : CMulX i j) (h : Q (.int (i * j)) μ) : dMul (.int i) (.int j) μ Q := .inl ⟨i, j, rfl, rfl, c, h⟩
theorem e_mulL {x : D} {l : List D} {k : Int} (h1 : rawOf μ x = some l) (c : -(2 ^ 63) ≤ k ∧ k < 2 ^ 63 ∧ l.length * k.toNat ≤ sizeLine) (h : Q (.lst (List.replicate k.toNat l).flatten) μ) : dMul x (.int k) μ Q := .inr ⟨l, k, h1, rfl, c.1, c.2.1, c.2.2, h⟩
theorem e_fdiv {i j : Int} (c : CDivW i j) (h : Q (.int (i / j)) μ) : dFdiv (.int i) (.int j) μ Q := ⟨i, j, rfl, rfl, .of c, h⟩
theorem e_fdivX {i j : Int} (c : CDivX i j) (h : Q (.int (i / j)) μ) : dFdiv (.int i) (.int j) μ Q := ⟨i, j, rfl, rfl, c, h⟩
theorem e_mod {i j : Int} (c : 0 < j) (h : Q (.int (i % j)) μ) : dMod (.int i) (.int j) μ Q := ⟨i, j, rfl, rfl, c, h⟩
theorem e_pow {i j : Int} (c : CPow i j) (h : Q (.int (i ^ j.toNat)) μ) : dPow (.int i) (.int j) μ Q := ⟨i, j, rfl, rfl, c, h⟩
theorem e_shl {i j : Int} (c : CShl i j) (h : Q (.int (i * 2 ^ j.toNat)) μ) : dShl (.int i) (.int j) μ Q := ⟨i, j, rfl, rfl, c, h⟩
theorem e_shr {i j : Int} (c : 0 ≤ j) (h : Q (.int (i / 2 ^ j.toNat)) μ) : dShr (.int i) (.int j) μ Q := ⟨i, j, rfl, rfl, c, h⟩
theorem e_lt {i j : Int} (h : Q (.bl (decide (i < j))) μ) : dLt (.int i) (.int j) μ Q := ⟨i, j, rfl, rfl, h⟩
theorem e_le {i j : Int} (h : Q (.bl (decide (i ≤ j))) μ) : dLe (.int i) (.int j) μ Q := ⟨i, j, rfl, rfl, h⟩
theorem e_gt {i j : Int} (h : Q (.bl (decide (j < i))) μ) : dGt (.int i) (.int j) μ Q := ⟨i, j, rfl, rfl, h⟩
theorem e_ge {i j : Int} (h : Q (.bl (decide (j ≤ i))) μ) : dGe (.int i) (.int j) μ Q := ⟨i, j, rfl, rfl, h⟩
theorem eqv_int (i j : Int) : (D.int i).eqv (.int j) = decide (i = j) := by
  show (i == j) = _
  rw [Bool.beq_eq_decide_eq]
theorem ok_int (i : Int) : (D.int i).ok := ⟨rfl, by
  unfold SeqAt.shaped
  simp [D.py, PyData.canLay0, PyData.depth]⟩
theorem e_eqI {i j : Int} (h : Q (.bl (decide (i = j))) μ) : dEq (.int i) (.int j) μ Q := .inl ⟨ok_int i, ok_int j, by rw [eqv_int]; exact h⟩
theorem e_neI {i j : Int} (h : Q (.bl (!decide (i = j))) μ) : dNe (.int i) (.int j) μ Q := .inl ⟨ok_int i, ok_int j, by rw [eqv_int]; exact h⟩
theorem e_eq {x y : D} (h1 : x.ok) (h2 : y.ok) (h : Q (.bl (x.eqv y)) μ) : dEq x y μ Q := .inl ⟨h1, h2, h⟩
theorem e_ne {x y : D} (h1 : x.ok) (h2 : y.ok) (h : Q (.bl (!x.eqv y)) μ) : dNe x y μ Q := .inl ⟨h1, h2, h⟩
theorem e_eqS {s t : Str} (h : Q (.bl (decide (s = t))) μ) : dEq (.str s) (.str t) μ Q := .inr ⟨s, t, rfl, rfl, h⟩
theorem e_neS {s t : Str} (h : Q (.bl (!decide (s = t))) μ) : dNe (.str s) (.str t) μ Q := .inr ⟨s, t, rfl, rfl, h⟩
theorem e_isN {x : D} (h : Q (.bl x.isN) μ) : dIsN x .non μ Q := ⟨rfl, h⟩
theorem e_notN {x : D} (h : Q (.bl (!x.isN)) μ) : dNotN x .non μ Q := ⟨rfl, h⟩
theorem e_ix {x d : D} {l : List D} {i : Int} (h1 : seqOf μ x = some l) (h2 : atI l i = some d) (h : Q d μ) : dIx x (.int i) μ Q := ⟨l, i, d, h1, rfl, h2, h⟩
theorem e_slT {te : DTE} {tl th : DTO} (h : te σ μ fun x μ1 => tl σ μ1 fun l μ2 => th σ μ2 fun w μ3 => (∃ ds, lstOf μ3 x = some ds ∧ Q (.lst (cutD ds l w)) μ3) ∨ (∃ ds, x = .tup ds ∧ Q (.tup (cutD ds l w)) μ3)) : dSl te tl th σ μ Q := h
theorem e_part {QO : Option Int → Mem → Prop} (h : ta σ μ fun x μ1 => ∃ i, x = .int i ∧ QO (some i) μ1) : dPart ta σ μ QO := h
theorem e_part1 {R : Int → Prop} {i : Int} (h : R i) : ∃ j, D.int i = D.int j ∧ R j := ⟨i, rfl, h⟩
theorem e_nopart {QO : Option Int → Mem → Prop} (h : QO none μ) : dNoPart σ μ QO := h
theorem e_cutL {x : D} {ds : List D} {R : List D → Prop} {B : Prop} (h1 : lstOf μ x = some ds) (h : R ds) : (∃ ds, lstOf μ x = some ds ∧ R ds) ∨ B := .inl ⟨ds, h1, h⟩
theorem e_cutT {ds : List D} {R : List D → Prop} {B : Prop} (h : R ds) : B ∨ (∃ es, D.tup ds = .tup es ∧ R es) := .inr ⟨ds, rfl, h⟩
theorem e_revL (h : ta σ μ fun x μ1 => ∃ ds, lstOf μ1 x = some ds ∧ Q (.lst ds.reverse) μ1) : dRevL ta σ μ Q := h
theorem e_abs {i : Int} (h : Q (.int (if i < 0 then -i else i)) μ) : dAbs [.int i] μ Q := ⟨i, rfl, h⟩
theorem e_max2 {i j : Int} (h : Q (.int (if j > i then j else i)) μ) : dMax2 [.int i, .int j] μ Q := ⟨i, j, rfl, h⟩
theorem e_min2 {i j : Int} (h : Q (.int (if j < i then j else i)) μ) : dMin2 [.int i, .int j] μ Q := ⟨i, j, rfl, h⟩
theorem e_int1 {i : Int} (h : Q (.int i) μ) : dInt1 [.int i] μ Q := .inl ⟨i, rfl, h⟩
theorem e_intB {k : Bool} (h : Q (.int (if k then 1 else 0)) μ) : dInt1 [.bl k] μ Q := .inr ⟨k, rfl, h⟩
theorem e_len {d : D} {l : List D} (h1 : seqOf μ d = some l) (h : Q (.int l.length) μ) : dLen [d] μ Q := ⟨d, l, rfl, h1, h⟩
theorem e_isi {d : D} {n m : String} {r : Bool} (h1 : d.tyn = some n) (h2 : kitB n m = some r) (h : Q (.bl r) μ) : dIsi [d, .ty m] μ Q := ⟨d, n, m, r, rfl, h1, h2, h⟩
theorem e_sum {d : D} {ns : List Int} (h1 : lstOf μ d = some (ns.map D.int)) (h : Q (.int ns.sum) μ) : dSum [d] μ Q := ⟨d, ns, rfl, h1, h⟩
theorem e_repr {d : D} (h1 : d.shw) (h : Q (.str d.py.shown) μ) : dRepr [d] μ Q := ⟨d, rfl, h1, h⟩
theorem e_listOf {d : D} {l : List D} (h1 : seqOf μ d = some l) (h : Q (.lst l) μ) : dListOf [d] μ Q := ⟨d, l, rfl, h1, h⟩
theorem e_tupleOf {d : D} {l : List D} (h1 : lstOf μ d = some l) (h : Q (.tup l) μ) : dTupleOf [d] μ Q := ⟨d, l, rfl, h1, h⟩
theorem e_gbox {to ti : DTE} {d : D} {R : DSt → Mem → Prop} (h : to σ μ fun o μ1 => ti σ μ1 fun y μ2 => ∃ b l i j, o = .box b ∧ μ2[b]? = some l ∧ y = .int i ∧ ixN l.length i = some j ∧ R σ (μ2.set b (l.set j d))) : dgBox to ti d σ μ R := h
theorem e_for {ti : DTI} {g : DTG} (h : ti σ μ fun items μ1 => dLoop g u De items σ μ1) : dFor ti g u De σ μ := h
theorem e_itL {l : List D} {R : List D → Prop} (h : R l) : ∃ l', (D.lst l = .lst l' ∨ D.lst l = .frz l') ∧ R l' := ⟨l, .inl rfl, h⟩
theorem e_itLs {Q : List D → Mem → Prop} (h : ta σ μ fun d μ1 => ∃ l, (d = .lst l ∨ d = .frz l) ∧ Q l μ1) : dItL ta σ μ Q := h
theorem e_itTs {Q : List D → Mem → Prop} (h : ta σ μ fun d μ1 => ∃ l, d = .tup l ∧ Q l μ1) : dItT ta σ μ Q := h
theorem e_itT {l : List D} {R : List D → Prop} (h : R l) : ∃ l', D.tup l = .tup l' ∧ R l' := ⟨l, rfl, h⟩
theorem e_rng1 {Q : List D → Mem → Prop} (h : tr σ μ fun ds μ1 => ∃ j : Int, ds = [.int j] ∧ (-(2 ^ 62) ≤ j ∧ j < 2 ^ 62) ∧ Q (rngD 0 j.toNat) μ1) : dRng1 tr σ μ Q := h
theorem e_rng1b {R : Int → Prop} {j : Int} (hj : -(2 ^ 62) ≤ j ∧ j < 2 ^ 62) (h : R j) : ∃ j' : Int, [D.int j] = [.int j'] ∧ (-(2 ^ 62) ≤ j' ∧ j' < 2 ^ 62) ∧ R j' := ⟨j, rfl, hj, h⟩
theorem e_rng2b {R : Int → Int → Prop} {i j : Int} (hj : -(2 ^ 62) ≤ i ∧ i < 2 ^ 62 ∧ -(2 ^ 62) ≤ j ∧ j < 2 ^ 62) (h : R i j) : ∃ i' j' : Int, [D.int i, D.int j] = [.int i', .int j'] ∧ (-(2 ^ 62) ≤ i' ∧ i' < 2 ^ 62 ∧ -(2 ^ 62) ≤ j' ∧ j' < 2 ^ 62) ∧ R i' j' := ⟨i, j, rfl, hj, h⟩
theorem e_rng2 {Q : List D → Mem → Prop} (h : tr σ μ fun ds μ1 => ∃ i j : Int, ds = [.int i, .int j] ∧ (-(2 ^ 62) ≤ i ∧ i < 2 ^ 62 ∧ -(2 ^ 62) ≤ j ∧ j < 2 ^ 62) ∧ Q (rngD i (j - i).toNat) μ1) : dRng2 tr σ μ Q := h
theorem e_lc {ti : DTI} {g : DTG} {te : DTE} {vs : List Nat} (h : ti σ μ fun items μ1 => dLcLoop g tt te (hideD σ vs) items [] μ1 fun acc μ2 => Q (.lst acc) μ2) : dLc ti g tt te vs σ μ Q := h
theorem e_own {i : Nat} (h : tr σ μ fun ds μ1 => ds.length ≤ sizeLine ∧ De.nx (σ.set i (some (.own ds))) μ1) : dOwn i tr De σ μ := h
theorem e_app {i : Nat} {l : List D} (h1 : σ[i]? = some (some (.own l))) (h : ta σ μ fun d μ1 => l.length < sizeLine ∧ De.nx (σ.set i (some (.own (l ++ [d])))) μ1) : dApp i ta De σ μ := ⟨l, h1, h⟩
theorem e_frz {i : Nat} {l : List D} (h1 : σ[i]? = some (some (.own l))) (h : u De (σ.set i (some (.lst l))) μ) : dFreeze i u De σ μ := ⟨l, h1, h⟩
theorem e_yes (h : QT true μ) : dYes σ μ QT := h
/-! loops by what holds between two turns -/
theorem loop_inv {g : DTG} (Iv : Nat → DSt → Mem → Prop) : ∀ (items : List D) (k : Nat) (σ : DSt) (μ : Mem), Iv k σ μ →
    (∀ i x σ μ (K : DSt → Mem → Prop), items[i]? = some x → Iv (k + i) σ μ → (∀ σ' μ', Iv (k + i + 1) σ' μ' → K σ' μ') → g x σ μ fun σ2 μ2 => u { nx := K, rt := De.rt, bk := De.nx, ct := K } σ2 μ2) →
    (∀ σ μ, Iv (k + items.length) σ μ → De.nx σ μ) → dLoop g u De items σ μ
  | [], k, σ, μ, h0, hs, hd => hd σ μ h0
  | x :: r, k, σ, μ, h0, hs, hd => by
    refine hs 0 x σ μ (dLoop g u De r) rfl h0 fun σ' μ' h => ?_
    refine loop_inv Iv r (k + 1) σ' μ' h (fun i x σ μ K e q hk => ?_) (fun σ μ h => hd σ μ (by rw [List.length_cons, show k + (r.length + 1) = k + 1 + r.length by omega]; exact h))
    exact hs (i + 1) x σ μ K (by simpa using e) (by rw [show k + (i + 1) = k + 1 + i by omega]; exact q) fun σ' μ' h => hk σ' μ' (by rw [show k + 1 + i + 1 = k + (i + 1) + 1 by omega]; exact h)
/-- the turn does not ask which it is -/
theorem loop_all {g : DTG} (Iv : DSt → Mem → Prop) {items : List D} {σ : DSt} {μ : Mem} (h0 : Iv σ μ)
    (hs : ∀ x σ μ (K : DSt → Mem → Prop), x ∈ items → Iv σ μ → (∀ σ' μ', Iv σ' μ' → K σ' μ') → g x σ μ fun σ2 μ2 => u { nx := K, rt := De.rt, bk := De.nx, ct := K } σ2 μ2)
    (hd : ∀ σ μ, Iv σ μ → De.nx σ μ) : dLoop g u De items σ μ :=
  loop_inv (fun _ => Iv) items 0 σ μ h0 (fun i x σ μ K e q hk => hs x σ μ K (List.mem_of_getElem? e) q hk) hd
theorem lc_inv {g : DTG} {te : DTE} {σw : DSt} {Q : List D → Mem → Prop} (Iv : Nat → List D → Mem → Prop) : ∀ (items : List D) (k : Nat) (acc : List D) (μ : Mem), Iv k acc μ →
    (∀ i x acc μ (K : List D → Mem → Prop), items[i]? = some x → Iv (k + i) acc μ → (∀ acc' μ', Iv (k + i + 1) acc' μ' → K acc' μ') → g x σw μ fun σ2 μ2 => tt σ2 μ2 fun b μ3 => if b = true then te σ2 μ3 fun y μ4 => acc.length < sizeLine ∧ K (acc ++ [y]) μ4 else K acc μ3) →
    (∀ acc μ, Iv (k + items.length) acc μ → Q acc μ) → dLcLoop g tt te σw items acc μ Q
  | [], k, acc, μ, h0, hs, hd => hd acc μ h0
  | x :: r, k, acc, μ, h0, hs, hd => by
    refine hs 0 x acc μ (fun a m => dLcLoop g tt te σw r a m Q) rfl h0 fun a m h => ?_
    refine lc_inv Iv r (k + 1) a m h (fun i x acc μ K e q hk => ?_) (fun acc μ h => hd acc μ (by rw [List.length_cons, show k + (r.length + 1) = k + 1 + r.length by omega]; exact h))
    exact hs (i + 1) x acc μ K (by simpa using e) (by rw [show k + (i + 1) = k + 1 + i by omega]; exact q) fun a m h => hk a m (by rw [show k + 1 + i + 1 = k + (i + 1) + 1 by omega]; exact h)
/-- [f(x) for x in items], by a function of the items -/
theorem lc_map {g : DTG} {te : DTE} {σw : DSt} {μ : Mem} {Q : List D → Mem → Prop} (f : D → D) {items : List D} (hz : items.length ≤ sizeLine)
    (hs : ∀ x (K : D → Mem → Prop), x ∈ items → K (f x) μ → g x σw μ fun σ2 μ2 => te σ2 μ2 K) (h : Q (items.map f) μ) : dLcLoop g dYes te σw items [] μ Q := by
  refine lc_inv (fun i acc μ' => μ' = μ ∧ acc = (items.take i).map f) items 0 [] μ ⟨rfl, rfl⟩ (fun i x acc μ' K e q hk => ?_) (fun acc μ' q => ?_)
  · obtain ⟨rfl, rfl⟩ := q
    have hi : i < items.length := (List.getElem?_eq_some_iff.mp e).1
    refine hs x (fun y μ4 => _ ∧ K (_ ++ [y]) μ4) (List.mem_of_getElem? e) ⟨by rw [Nat.zero_add, List.length_map, List.length_take]; omega, hk _ _ ⟨rfl, ?_⟩⟩
    rw [Nat.zero_add, List.take_add_one, e, List.map_append]
    rfl
  · obtain ⟨rfl, rfl⟩ := q
    rw [Nat.zero_add, List.take_length]
    exact h
end
end DL

set_option maxRecDepth 100000
namespace DL
open PySem PySem.Spec PyProof.Rows L2
/-! ### ranges of any size -/
theorem turn_long {P : Program} {w : World} {K : PySem.W.Frag} {tg : Expr} (it : Addr) (lo : Int) (n : Nat) : Turn P w K tg (Itr lo n) [it] it (fun i h => IsLongIter h it (lo + (i : Nat) * 1) ((n : Int) - (i : Nat)) 1) := by
  refine ⟨List.mem_singleton.mpr rfl, ?_, fun i h h' st k => k it (List.mem_singleton.mpr rfl) _ st, ?_, ?_, fun _ _ _ _ _ st h => wpAny_pyIter_longiter st h⟩
  · intro i h st b hb
    cases List.mem_singleton.mp hb
    refine ⟨_, st, fun v z => ?_⟩
    cases (show Data.fields _ = Data.cell v from z)
  · rintro X rfl rfl rfl hc i pins s σ H E I hf st hg
    have hit := hf it (List.mem_singleton.mpr rfl)
    refine (Walks.longrange (prog := X.prog) (w := X.w) (I.ok.hd hc) it lo 1 n).item i s _ _ hg st ?_
    rintro v h' tk ⟨t, rfl⟩ st' kk
    have J : Inv X pins σ H { s with heap := h', toks := tk } := I.turned (fun b o hb e => kk b o (fun z => hb (List.mem_singleton.mp z)) e) hit.1 hit.2.1 hit.2.2.2.1 hit.2.2.2.2.1 hit.2.2.2.2.2
    refine ⟨_, rfl, go_of (s := { s with heap := h', toks := tk }) (n := "longrange_iterator") st' rfl rfl (by decide) ?_⟩
    exact ⟨.int (lo + i), H, J, ⟨t, by rw [Int.mul_one]⟩, ⟨rfl, rfl⟩, st', fun b hb => (hf b hb).1⟩
  · rintro X rfl rfl rfl hc i pins s σ H E I hf st hg
    have hit := hf it (List.mem_singleton.mpr rfl)
    have hn : n ≤ i := hg
    refine wpAny_pyNext_long_end (I.ok.hd hc) st (by omega) fun h' eb => ⟨rfl, ?_⟩
    exact I.turned (t' := s.toks) (fun b o hb e => eb b o hb e) hit.1 hit.2.1 hit.2.2.2.1 hit.2.2.2.2.1 hit.2.2.2.2.2
theorem range_wide {X : Cx} {tg : Expr} {pins : List (Addr × Obj)} {σ : List (Option V)} {H : Hp} {s : Shared} {R : It → Hp → Prop} {E : Value → Shared → Prop} {lo hi : Int} {t u v : Tok} {tk : Nat} (I : Inv X pins σ H s)
    (q : R (Itr lo (hi - lo).toNat) H) : wpAny (model X.prog X.w) X.A (pyIter (.ref s.heap.objs.size)) (PIE X pins σ tg R) E { s with heap := s.heap.push { cls := .type "range", data := .fields #[.int lo t, .int hi u, .int 1 v] }, toks := tk } := by
  let h1 := s.heap.push { cls := .type "range", data := .fields #[.int lo t, .int hi u, .int 1 v] }
  have I1 : Inv X pins σ H { s with heap := h1, toks := tk } := I.kept fun b o e => Heap.get?_push_of_some _ e
  have sz : (((hi - lo).toNat : Nat) : Int) - ((0 : Nat) : Int) = Builtin.Range.rangeSize lo hi 1 := by rw [rangeSize_one]; split <;> omega
  have e1 : lo + ((0 : Nat) : Int) * 1 = lo := by omega
  have new : ∀ b ∈ [h1.objs.size], FpOk X pins H b := fun b hb => by
    cases List.mem_singleton.mp hb
    exact I1.fpOk (Nat.le_refl _) (I1.hok.fresh (Nat.le_refl _))
  cases sm : Builtin.Range.small lo hi 1 with
  | true =>
    refine wpAny_pyIter_range (IsRange.new ..) sm ?_
    refine ⟨h1.objs.size, [h1.objs.size], _, _, H, rfl, I1.kept (t' := tk) fun b o e => Heap.get?_push_of_some _ e, turn_range _ lo (hi - lo).toNat, ?_, new, q⟩
    show IsRangeIter _ _ (lo + ((0 : Nat) : Int) * 1) ((((hi - lo).toNat : Nat) : Int) - ((0 : Nat) : Int)) 1
    rw [e1, sz]
    exact Heap.get?_push_size _ rfl
  | false =>
    refine wpAny_pyIter_longrange (IsRange.new ..) sm ?_
    refine ⟨h1.objs.size, [h1.objs.size], _, _, H, rfl, I1.kept (t' := tk) fun b o e => Heap.get?_push_of_some _ e, turn_long _ lo (hi - lo).toNat, ?_, new, q⟩
    show IsLongIter _ _ (lo + ((0 : Nat) : Int) * 1) ((((hi - lo).toNat : Nat) : Int) - ((0 : Nat) : Int)) 1
    rw [e1, sz]
    exact Heap.get?_push_size _ rfl
def iRngW (ta : TA) : TI := fun σ H R => ta σ H fun vs H1 => ∃ i j : Int, vs = [.int i, .int j] ∧ R (Itr i (j - i).toNat) H1
theorem pi_rangeW {X : Cx} {tg a b : Expr} {ta : TA} {p pos : Pos} (hg : Gl X "range") (hm : X.mg "range" = none) (ha : PA X [a, b] ta) (hs : starEach [a, b] X.env = [(false, eval a X.env), (false, eval b X.env)] := by rfl) (hs2 : starEach [b] X.env = [(false, eval b X.env)] := by rfl) :
    PI X tg (.Call (.Name "range" p) [a, b] [] pos) (iRngW ta) := by
  constructor
  intro pins s σ H R I h
  refine Call_ (ld_blt I hg hm boot_range (PyProof.Rows.callWith_type1 (thn (ha.run pos pins s σ H _ I h) ?_) (by rw [hs, hs2]) (by rw [hs2]; rfl)))
  rintro us s1 ⟨vs, H1, I1, r, i, j, rfl, q⟩
  match us, r with
  | [_, _], .cons ⟨t, rfl⟩ (.cons ⟨t', rfl⟩ .nil) => exact call_range_2 (range_wide I1 q)
def dRngW (t : DTA) : DTI := fun σd μ Q => t σd μ fun ds μ1 => ∃ i j : Int, ds = [.int i, .int j] ∧ Q (rngD i (j - i).toNat) μ1
theorem di_rangeW {X : Cx} {tg a b : Expr} {ta : DTA} {p pos : Pos} (ha : DA X [a, b] ta) (hp : ∀ ta', PA X [a, b] ta' → PI X tg (.Call (.Name "range" p) [a, b] [] pos) (iRngW ta')) : DI X tg (.Call (.Name "range" p) [a, b] [] pos) (dRngW ta) := by
  obtain ⟨te, p, h⟩ := ha.ex
  refine ⟨_, hp _ p, fun G M σ H σd μ Q R hK S q k => ?_⟩
  refine h G M σ H σd μ _ _ hK S q fun vs H1 ds μ1 S1 r1 q1 => ?_
  obtain ⟨i, j, rfl, q1⟩ := q1
  obtain ⟨v, v', rfl, r, r'⟩ := rps2 r1
  exact ⟨i, j, by rw [show v = .int i from r, show v' = .int j from r'], k [] _ _ _ _ (S1.pinL fun q hq => nomatch hq) (rng_it i (j - i).toNat) q1⟩
theorem e_rngW {tr : DTA} {σ : DSt} {μ : Mem} {Q : List D → Mem → Prop} (h : tr σ μ fun ds μ1 => ∃ i j : Int, ds = [.int i, .int j] ∧ Q (rngD i (j - i).toNat) μ1) : dRngW tr σ μ Q := h
theorem e_rngWb {R : Int → Int → Prop} {i j : Int} (h : R i j) : ∃ i' j' : Int, [D.int i, D.int j] = [.int i', .int j'] ∧ R i' j' := ⟨i, j, rfl, h⟩
end DL

set_option maxRecDepth 100000
set_option exponentiation.threshold 5000
namespace DL
open PySem PySem.Spec L2
/-! ### what repr can show -/
mutual
/-- its ints are not too great -/
def D.gd : D → Prop
  | .non => True
  | .bl _ => True
  | .int i => i.natAbs < 2 ^ 1919
  | .str x => PyData.strOk x = true
  | .tup l => gds l
  | .lst l => gds l
  | _ => False
def gds : List D → Prop
  | [] => True
  | d :: l => d.gd ∧ gds l
end
mutual
/-- more signs than its text has -/
def D.wt : D → Nat
  | .non => 4
  | .bl _ => 5
  | .int _ => 1921
  | .str x => 10 * x.length + 2
  | .tup l => wts l + 3
  | .lst l => wts l + 3
  | _ => 0
def wts : List D → Nat
  | [] => 0
  | d :: l => d.wt + 2 + wts l
end
mutual
def D.dp : D → Nat
  | .tup l => dps l + 1
  | .lst l => dps l + 1
  | _ => 0
def dps : List D → Nat
  | [] => 0
  | d :: l => max d.dp (dps l)
end
theorem listText_len (ts : List Str) : (listText ts).length ≤ piled ts + 2 := by
  have h : ∀ ts : List Str, (listText ts).length = (textFrom 0 "[" ts).length + 1 := fun ts => by
    show (textFrom 0 "[" ts ++ "]").length = _
    rw [strLen_append]; rfl
  cases ts with
  | nil => decide +kernel
  | cons t r =>
    rw [h]
    have e : textFrom 0 "[" (t :: r) = textFrom 1 (("[" : Str) ++ (if (0 : Nat) > 0 then ", " else "" : String) ++ t) r := rfl
    rw [e, textFrom_length_pos r 1 _ (by decide), strLen_append, strLen_append, piled_cons]
    have : (("[" : String) : Str).length = 1 := by decide +kernel
    have : ((if (0 : Nat) > 0 then ", " else "" : String) : Str).length = 0 := by decide +kernel
    omega
theorem tupleText_len (ts : List Str) : (tupleText ts).length ≤ piled ts + 3 := by
  unfold tupleText
  rw [strLen_append, strLen_append]
  have e1 : (("(" : String) : Str).length = 1 := by decide +kernel
  have e3 : ((if ts.length == 1 then ",)" else ")" : String) : Str).length ≤ 2 := by split <;> decide +kernel
  cases ts with
  | nil =>
    have : (Str.join ", " []).length = 0 := by decide +kernel
    omega
  | cons t r =>
    have := join_length_add (t :: r) (by simp)
    omega
mutual
theorem shown_len : ∀ d : D, d.gd → d.py.shown.length ≤ d.wt
  | .non, _ => by simp only [D.py, PyData.shown, D.wt]; decide +kernel
  | .bl b, _ => by cases b <;> (simp only [D.py, PyData.shown, D.wt]; decide +kernel)
  | .int i, h => by
    simp only [D.py, PyData.shown, D.wt]
    have h : i.natAbs < 2 ^ 1919 := h
    exact PyProof.Rows.int_text_len_1921 (by
      by_cases z : i.natAbs = 0
      · rw [z]; decide
      · exact (Nat.log2_lt z).mpr (Nat.lt_of_lt_of_le h (Nat.pow_le_pow_right (by decide) (by decide))))
  | .str x, h => by
    simp only [D.py, PyData.shown, D.wt]
    have h : PyData.strOk x = true := h
    unfold PyData.strOk at h
    refine StrLaws.reprText_len x fun c hc => ?_
    have := (Array.all_eq_true'.mp h) c (Array.mem_toList_iff.mp hc)
    have := of_decide_eq_true this
    omega
  | .tup l, h => by
    simp only [D.py, PyData.shown, D.wt]
    have := tupleText_len (PyData.shownAll (pys l))
    have := shown_piled l h
    omega
  | .lst l, h => by
    simp only [D.py, PyData.shown, D.wt]
    have := listText_len (PyData.shownAll (pys l))
    have := shown_piled l h
    omega
  | .own _, h => h.elim
  | .frz _, h => h.elim
  | .box _, h => h.elim
  | .ty _, h => h.elim
  | .exc _ _ _ _, h => h.elim
theorem shown_piled : ∀ l : List D, gds l → piled (PyData.shownAll (pys l)) ≤ wts l
  | [], _ => by simp only [pys, PyData.shownAll, piled_nil, wts]; omega
  | d :: l, h => by
    simp only [pys, PyData.shownAll, piled_cons, wts]
    have h1 := shown_len d h.1
    have h2 := shown_piled l h.2
    omega
end
mutual
theorem gd_flat : ∀ d : D, d.gd → d.flat = true ∧ d.py.showable = true ∧ d.py.canLay0 = true
  | .non, _ => ⟨rfl, rfl, rfl⟩
  | .bl b, _ => ⟨rfl, rfl, rfl⟩
  | .int i, h => ⟨rfl, by
      simp only [D.py, PyData.showable]
      have h : i.natAbs < 2 ^ 1919 := h
      refine decide_eq_true ?_
      by_cases z : i.natAbs = 0
      · rw [z]; decide
      · exact (Nat.log2_lt z).mpr (Nat.lt_of_lt_of_le h (Nat.pow_le_pow_right (by decide) (by decide))), rfl⟩
  | .str x, h => ⟨rfl, rfl, h⟩
  | .tup l, h => by simp only [D.flat, D.py, PyData.showable, PyData.canLay0]; exact gds_flat l h
  | .lst l, h => by simp only [D.flat, D.py, PyData.showable, PyData.canLay0]; exact gds_flat l h
  | .own _, h => h.elim
  | .frz _, h => h.elim
  | .box _, h => h.elim
  | .ty _, h => h.elim
  | .exc _ _ _ _, h => h.elim
theorem gds_flat : ∀ l : List D, gds l → flats l = true ∧ PyData.showableAll (pys l) = true ∧ PyData.canLayAll0 (pys l) = true
  | [], _ => ⟨rfl, rfl, rfl⟩
  | d :: l, h => by
    obtain ⟨a, b, c⟩ := gd_flat d h.1
    obtain ⟨a', b', c'⟩ := gds_flat l h.2
    simp only [flats, pys, PyData.showableAll, PyData.canLayAll0, a, b, c, a', b', c', Bool.and_self, and_self]
end
mutual
theorem dp_py : ∀ d : D, d.gd → d.py.depth = d.dp
  | .non, _ => rfl
  | .bl b, _ => rfl
  | .int i, h => rfl
  | .str x, h => rfl
  | .tup l, h => by simp only [D.py, PyData.depth, D.dp]; rw [dps_py l h]
  | .lst l, h => by simp only [D.py, PyData.depth, D.dp]; rw [dps_py l h]
  | .own _, h => h.elim
  | .frz _, h => h.elim
  | .box _, h => h.elim
  | .ty _, h => h.elim
  | .exc _ _ _ _, h => h.elim
theorem dps_py : ∀ l : List D, gds l → PyData.depthAll (pys l) = dps l
  | [], _ => rfl
  | d :: l, h => by simp only [pys, PyData.depthAll, dps]; rw [dp_py d h.1, dps_py l h.2]
end
theorem shw_of {d : D} (g : d.gd) (w : d.wt ≤ 16777216) (p : d.dp ≤ 50) : d.shw := by
  obtain ⟨a, b, c⟩ := gd_flat d g
  exact ⟨a, b, PyData.hasDict_of_canLay _ c, by rw [dp_py d g]; exact p, by have := shown_len d g; rw [sizeLine_eq]; omega⟩
theorem ok_of {d : D} (g : d.gd) (p : d.dp ≤ 50) : d.ok := by
  obtain ⟨a, b, c⟩ := gd_flat d g
  refine ⟨a, ?_⟩
  unfold SeqAt.shaped
  rw [c, dp_py d g, decide_eq_true (by omega)]
  rfl
mutual
theorem eqv_self : ∀ d : D, d.gd → PyData.eqv d.py d.py = true
  | .non, _ => rfl
  | .bl b, _ => by cases b <;> rfl
  | .int i, h => by simp only [D.py, PyData.eqv, BEq.rfl]
  | .str x, h => by simp only [D.py, PyData.eqv, BEq.rfl]
  | .tup l, h => by simp only [D.py, PyData.eqv]; exact eqv_selfs l h
  | .lst l, h => by simp only [D.py, PyData.eqv]; exact eqv_selfs l h
  | .own _, h => h.elim
  | .frz _, h => h.elim
  | .box _, h => h.elim
  | .ty _, h => h.elim
  | .exc _ _ _ _, h => h.elim
theorem eqv_selfs : ∀ l : List D, gds l → PyData.eqvAll (pys l) (pys l) = true
  | [], _ => rfl
  | d :: l, h => by simp only [pys, PyData.eqvAll, eqv_self d h.1, eqv_selfs l h.2]; rfl
end
theorem gds_of {l : List D} (h : ∀ d ∈ l, d.gd) : gds l := by
  induction l with
  | nil => trivial
  | cons d l ih => exact ⟨h d (by simp), ih fun x hx => h x (by simp [hx])⟩
theorem wts_le {l : List D} {w : Nat} (h : ∀ d ∈ l, d.wt ≤ w) : wts l ≤ (w + 2) * l.length := by
  induction l with
  | nil => exact Nat.zero_le _
  | cons d l ih =>
    have h1 := h d (by simp)
    have h2 := ih fun x hx => h x (by simp [hx])
    simp only [wts, List.length_cons, Nat.mul_add, Nat.mul_one]
    omega
theorem dps_le {l : List D} {k : Nat} (h : ∀ d ∈ l, d.dp ≤ k) : dps l ≤ k := by
  induction l with
  | nil => exact Nat.zero_le _
  | cons d l ih =>
    have h1 := h d (by simp)
    have h2 := ih fun x hx => h x (by simp [hx])
    simp only [dps]
    omega
end DL

set_option maxRecDepth 100000
namespace DL
open PySem PySem.Spec L2 PyProof.Rows
/-! ### xs[-2::-1] of a list: all but the last one, backwards -/
theorem rev2_pick (items : Array Value) : slicePick items (some (-2)) none (some (-1)) = (items.toList.take (items.size - 1)).reverse.toArray := by
  unfold slicePick
  have hb : sliceBounds (some (-2)) none (some (-1)) items.size = (((items.size - 1 : Nat) : Int) - 1, -1, -1) := by
    show (max (-1 : Int) (min (-2 + (items.size : Int)) ((items.size : Int) - 1)), (-1 : Int), (-1 : Int)) = _
    rw [show max (-1 : Int) (min (-2 + (items.size : Int)) ((items.size : Int) - 1)) = ((items.size - 1 : Nat) : Int) - 1 by omega]
  rw [hb]
  show ((sliceRange (((items.size - 1 : Nat) : Int) - 1) (-1) (-1)).filterMap (items[·]?)).toArray = _
  rw [PySem.W.krv_sliceRange, PySem.W.krv_range, List.filterMap_reverse]
  have h := pick_run items 0 (items.size - 1)
  rw [show ((0 + ·) : Nat → Nat) = id from funext fun k => Nat.zero_add k, List.map_id, List.drop_zero] at h
  rw [h]
variable {X : Cx}
def tRev2 (K : PySem.W.Frag) (te : TE) : TE := fun σ H Q => te σ H fun x H1 => ∃ a xs, x = .ref a ∧ SqL K H1 a xs ∧ ∀ p, H1 p = none → Q (.ref p) (upd H1 p (.lst (xs.take (xs.length - 1)).reverse))
theorem pe_rev2 {e : Expr} {te : TE} {k k2 : Nat} {p1 p2 p3 p4 p5 pos : Pos} (he : PE X e te) : PE X (.Subscript e (.Slice (some (.UnaryOp .USub (.Constant (.int 2) k2 p4) p5)) none (some (.UnaryOp .USub (.Constant (.int 1) k p1) p2)) p3) pos) (tRev2 X.K te) := by
  refine ⟨fun pins s σ H Q I h => ?_⟩
  refine Subscript_ (thn (he.run pins s σ H _ I h) fun v s1 ⟨x, H1, I1, r1, q1⟩ => ?_)
  obtain ⟨a, xs, ex, hx, q⟩ := q1
  subst ex
  cases r1
  have hst : PO X (some (.UnaryOp .USub (.Constant (.int 1) k p1) p2)) (tPart (tUn (rU fun i => .int (-i)) (tC (.int 1)))) := po_some (pe_un un_neg pe_int)
  have hs2 : PO X (some (.UnaryOp .USub (.Constant (.int 2) k2 p4) p5)) (tPart (tUn (rU fun i => .int (-i)) (tC (.int 2)))) := po_some (pe_un un_neg pe_int)
  refine wpAny_Slice (thn (hs2.run pins s1 σ H1 (fun o H2 => o = some (-2) ∧ H2 = H1) I1 ⟨2, rfl, -2, rfl, rfl, rfl⟩) fun vl s2 ⟨l, H2, I2, pl, el, e2⟩ => ?_)
  subst el e2
  refine thn (po_none.run pins s2 σ H2 (fun o H3 => o = none ∧ H3 = H2) I2 ⟨rfl, rfl⟩) fun vu s3 ⟨u, H3, I3, pu, eu, e3⟩ => ?_
  subst eu e3
  refine thn (hst.run pins s3 σ H3 (fun o H4 => o = some (-1) ∧ H4 = H3) I3 ⟨1, rfl, -1, rfl, rfl, rfl⟩) fun vs s4 ⟨o, H4, I4, ps, eo, e4⟩ => ?_
  subst eo e4
  have I5 : Inv X pins σ H4 { s4 with heap := s4.heap.push { cls := .type "slice", data := .fields #[vl, vu, vs] } } := I4.kept (t' := s4.toks) fun b ob q => Heap.get?_push_of_some _ q
  obtain ⟨its, r, ht, hz⟩ := I5.list hx
  have hlen := r.length
  show wpAny (model X.prog X.w) X.A (subscriptTail e (.Slice (some (.UnaryOp .USub (.Constant (.int 2) k2 p4) p5)) none (some (.UnaryOp .USub (.Constant (.int 1) k p1) p2)) p3) (.ref a) (.ref s4.heap.objs.size)) (EP X pins σ Q) X.xe { s4 with heap := s4.heap.push { cls := .type "slice", data := .fields #[vl, vu, vs] } }
  refine tail_any (ops := [.ref a, .ref s4.heap.objs.size]) ht.isList.typeIs (PySem.slot_list_getitem.lookup) ?_ (by with_unfolding_all rfl)
  refine wpAny_getItem_list_slice ht.isList (Heap.IsSliceOf.new _ vl vu vs) pl pu ps (by decide) ?_ (by rw [List.size_toArray]; omega)
  rw [rev2_pick]
  refine ⟨.ref _, _, I5.laid (t' := s4.toks) (o := .lst (xs.take (xs.length - 1)).reverse) (fun b ob q => Heap.get?_push_of_some _ q) (Nat.le_refl _) ?_, rfl, q _ (I5.hok.fresh (Nat.le_refl _))⟩
  have hr := (r.take (xs.length - 1)).reverse
  refine ⟨by rw [List.length_reverse, List.length_take]; omega, _, 0, hr, ?_⟩
  rw [show (its.toArray).toList.take ((its.toArray).size - 1) = its.take (xs.length - 1) by rw [List.size_toArray, ← hlen]]
  exact Heap.get?_push_size _ rfl
def dRev2 (t : DTE) : DTE := fun σd μ Q => t σd μ fun x μ1 => ∃ ds, lstOf μ1 x = some ds ∧ Q (.lst (ds.take (ds.length - 1)).reverse) μ1
theorem de_rev2 {e : Expr} {t : DTE} {k k2 : Nat} {p1 p2 p3 p4 p5 pos : Pos} (he : DE X e t) : DE X (.Subscript e (.Slice (some (.UnaryOp .USub (.Constant (.int 2) k2 p4) p5)) none (some (.UnaryOp .USub (.Constant (.int 1) k p1) p2)) p3) pos) (dRev2 t) := by
  obtain ⟨te, p, he⟩ := he.ex
  refine ⟨_, pe_rev2 p, fun G M σ H σd μ Q R hK S hq k => ?_⟩
  refine he G M σ H σd μ _ _ hK S hq fun v H1 d μ1 S1 r1 q1 => ?_
  obtain ⟨ds, e, q⟩ := q1
  obtain ⟨a, xs, rfl, h, rs⟩ := sq_lst S1 r1 e
  rw [hK] at h
  exact ⟨a, xs, rfl, h, fun p hp => k _ _ _ _ (S1.new hp) (by rw [rs.len]; exact S1.newL hp (rs.take _).rev) q⟩
theorem e_rev2 {σ : DSt} {μ : Mem} {Q : D → Mem → Prop} {ta : DTE} (h : ta σ μ fun x μ1 => ∃ ds, lstOf μ1 x = some ds ∧ Q (.lst (ds.take (ds.length - 1)).reverse) μ1) : dRev2 ta σ μ Q := h
/-! ### x, y = ([], n) -/
def dParOwn (i j : Nat) (n : Int) : DTS := fun De σd μ => De.nx ((σd.set i (some (.own []))).set j (some (.int n))) μ
theorem ds_parOwn {i j : Nat} {x y : Str} {n : Int} {px py pt p1 p2 pos : Pos} {kt k2 pt2 kc} (hp : ∀ ta', PA X [.List [] p1, .Constant (.int n) kc p2] ta' → PS X (.Assign [.Tuple [.Name x px, .Name y py] kt pt] (.Tuple [.List [] p1, .Constant (.int n) kc p2] k2 pt2) pos) (tPar i j ta')) :
    DS X (.Assign [.Tuple [.Name x px, .Name y py] kt pt] (.Tuple [.List [] p1, .Constant (.int n) kc p2] k2 pt2) pos) (dParOwn i j n) := by
  refine ⟨_, hp _ (pa_cons (pe_lst pa_nil) (pa_cons pe_int pa_nil)), fun G M σ H σd μ De E hK S q L => ?_⟩
  have S1 := fun p hp => SR.ownSet (l := []) (xs := []) S i (p := p) hp rfl
  refine ⟨Nat.zero_le _, fun p hp => ⟨_, _, rfl, ?_⟩⟩
  exact L.nx _ _ _ _ _ ((S1 p hp).set j (d := .int n) (v := .int n) rfl) q
theorem e_parOwn {i j : Nat} {n : Int} {De : DEnds} {σ : DSt} {μ : Mem} (h : De.nx ((σ.set i (some (.own []))).set j (some (.int n))) μ) : dParOwn i j n De σ μ := h
end DL

set_option maxRecDepth 100000
namespace DL
open PySem PySem.Spec L2 PyProof.Rows
section
variable {X : Cx} {e : Expr} {t : DTE} {pos : Pos}
/-! ### bit_length, str of an integer, the length of a text, what is never reached -/
def dBits (t : DTE) : DTE := fun σd μ Q => t σd μ fun x μ1 => ∃ i, x = .int i ∧ Q (.int (Builtin.Int.intBits i : Nat)) μ1
theorem de_bits {apos : Pos} (he : DE X e t) (hbase : attributeBase e "bit_length" X.env (eval e X.env) = eval e X.env := by rfl) (hline : (apos.endLine == pos.line) = true := by rfl) : DE X (.Call (.Attribute e "bit_length" apos) [] [] pos) (dBits t) := by
  obtain ⟨te, p, he⟩ := he.ex
  refine ⟨_, pe_bits p hbase hline, fun G M σ H σd μ Q R hK S hq k => ?_⟩
  refine he G M σ H σd μ _ _ hK S hq fun v H1 d μ1 S1 r1 q1 => ?_
  obtain ⟨i, rfl, q⟩ := q1
  exact ⟨i, r1, k _ _ _ _ S1 (rpI _) q⟩
theorem e_bits {σ : DSt} {μ : Mem} {Q : D → Mem → Prop} (h : t σ μ fun x μ1 => ∃ i, x = .int i ∧ Q (.int (Builtin.Int.intBits i : Nat)) μ1) : dBits t σ μ Q := h
theorem e_bits1 {i : Int} {R : Int → Prop} (h : R i) : ∃ j, D.int i = .int j ∧ R j := ⟨i, rfl, h⟩
def dNever : DTS := fun _ _ _ => False
theorem ds_never {st : Stmt} : DS X st dNever := ⟨fun _ _ _ => False, ⟨fun _ _ _ _ _ _ h => h.elim⟩, fun G M σ H σd μ De E hK S q L => q.elim⟩
def dStr1 : DRC := fun ds μ Q => ∃ i, ds = [.int i] ∧ i.natAbs.log2 < 1920 ∧ Q (.str (toString i)) μ
theorem cd_str : CD X (.type "str") dStr1 := by
  refine ⟨_, call_str_int, fun G M σ H σd μ xs ds Q R hK S r q k => ?_⟩
  obtain ⟨i, rfl, hz, q⟩ := q
  obtain ⟨v, rfl, r1⟩ := rps1 r
  exact ⟨i, by rw [show v = .int i from r1], hz, k _ _ _ _ S (rpS _) q⟩
theorem e_str1 {i : Int} {μ : Mem} {Q : D → Mem → Prop} (hz : i.natAbs.log2 < 1920) (h : Q (.str (toString i)) μ) : dStr1 [.int i] μ Q := ⟨i, rfl, hz, h⟩
def dLenS : DRC := fun ds μ Q => ∃ z : Str, ds = [.str z] ∧ z.length ≤ sizeLine ∧ Q (.int z.length) μ
theorem cd_lenS : CD X (.builtin "len") dLenS := by
  refine ⟨_, call_len_str, fun G M σ H σd μ xs ds Q R hK S r q k => ?_⟩
  obtain ⟨z, rfl, hz, q⟩ := q
  obtain ⟨v, rfl, r1⟩ := rps1 r
  exact ⟨z, by rw [show v = .str z from r1], hz, k _ _ _ _ S (rpI _) q⟩
theorem e_lenS {z : Str} {μ : Mem} {Q : D → Mem → Prop} (hz : z.length ≤ sizeLine) (h : Q (.int z.length) μ) : dLenS [.str z] μ Q := ⟨z, rfl, hz, h⟩
end
end DL

set_option maxRecDepth 100000
namespace DL
open PySem PySem.Spec L2 PyProof.Rows
section
variable {X : Cx} {e : Expr} {t : DTE} {pos : Pos}
/-! ### xs.extend(list) of a list of one's own -/
def dExt (i : Nat) (t : DTE) : DTS := fun De σd μ => ∃ l : List D, σd[i]? = some (some (.own l)) ∧ t σd μ fun d μ1 => ∃ m : List D, d = .lst m ∧ l.length + m.length ≤ sizeLine ∧ De.nx (σd.set i (some (.own (l ++ m)))) μ1
theorem ds_extend {i : Nat} {o : Expr} {apos cpos : Pos} (ho : PE X o (tVar i)) (he : DE X e t) (hp : ∀ te, PE X e te → PS X (.Expr (.Call (.Attribute o "extend" apos) [e] [] cpos) pos) (tDrop (tBM X.K "list" rExtend (tVar i) (tCons te tNil)))) :
    DS X (.Expr (.Call (.Attribute o "extend" apos) [e] [] cpos) pos) (dExt i t) := by
  obtain ⟨te, p, h⟩ := he.ex
  refine ⟨_, hp _ p, fun G M σ H σd μ De E hK S q L => ?_⟩
  obtain ⟨l, e1, q⟩ := q
  obtain ⟨v, ev, pp, xs, rfl, mp, h0, hh, rs⟩ := S.slot i _ e1
  refine ⟨_, ev, .inl ⟨rfl, xs, SqL.of hh⟩, ?_⟩
  refine h G M σ H σd μ _ _ hK S q fun w H1 d μ1 S1 r1 q1 => ?_
  obtain ⟨m, rfl, hz, q1⟩ := q1
  obtain ⟨b, zs, rfl, ob, rz⟩ := r1
  obtain ⟨v', ev', p', xs', e2, mp', h0', hh', rs'⟩ := S1.slot i _ e1
  rw [ev] at ev'; cases ev'; cases e2
  exact ⟨pp, b, xs', zs, rfl, rfl, hh', ob.2, by rw [rs'.len, rz.len]; exact hz, L.nx _ _ _ _ _ (S1.ownUpd i e1 ev (rs'.app rz)) q1⟩
theorem e_ext {i : Nat} {l : List D} {σ : DSt} {μ : Mem} {De : DEnds} (h1 : σ[i]? = some (some (.own l))) (h : t σ μ fun d μ1 => ∃ m : List D, d = .lst m ∧ l.length + m.length ≤ sizeLine ∧ De.nx (σ.set i (some (.own (l ++ m)))) μ1) : dExt i t De σ μ := ⟨l, h1, h⟩
/-! ### zip of two lists -/
def zipD (l m : List D) : List D := List.zipWith (fun x y => D.tup [x, y]) l m
def dZip (ta : DTA) : DTI := fun σd μ Q => ta σd μ fun ds μ1 => ∃ l m, ds = [.lst l, .lst m] ∧ Q (zipD l m) μ1
theorem di_zip {a b : Expr} {ta : DTA} {p tpos : Pos} {elts : List Expr} {kk : Nat} (ha : DA X [a, b] ta) (hp : ∀ ta', PA X [a, b] ta' → PI X (.Tuple elts kk tpos) (.Call (.Name "zip" p) [a, b] [] pos) (RZ.iZipA X.K ta')) : DI X (.Tuple elts kk tpos) (.Call (.Name "zip" p) [a, b] [] pos) (dZip ta) := by
  obtain ⟨te, p, h⟩ := ha.ex
  refine ⟨_, hp _ p, fun G M σ H σd μ Q R hK S q k => ?_⟩
  refine h G M σ H σd μ _ _ hK S q fun vs H1 ds μ1 S1 r1 q1 => ?_
  obtain ⟨l, m, rfl, q1⟩ := q1
  obtain ⟨v, v', rfl, r, r'⟩ := rps2 r1
  obtain ⟨a1, xs, rfl, h1, h2⟩ := id r
  obtain ⟨b1, ys, rfl, g1, g2⟩ := id r'
  have again : ∀ (G' : Gm) M σ H σd μ, G'.K = G.K → G'.bx = G.bx → (∀ q ∈ [(V.ref a1, D.lst l), (V.ref b1, D.lst m)], q ∈ G'.Fr) → SR G' M σ H σd μ → (∃ xs, SqL X.K H a1 xs ∧ Rps G'.K G'.bx M H l xs) ∧ ∃ ys, SqL X.K H b1 ys ∧ Rps G'.K G'.bx M H m ys := fun G' M σ H σd μ eK eb hF S' => by
    obtain ⟨a', xs, ea, h1, h2⟩ := S'.fr _ (hF _ (List.mem_cons_self ..))
    obtain ⟨b', ys, eb, g1, g2⟩ := S'.fr _ (hF _ (List.mem_cons_of_mem _ (List.mem_singleton.mpr rfl)))
    cases ea
    cases eb
    exact ⟨⟨xs, h1.sq, h2⟩, ys, g1.sq, g2⟩
  refine ⟨a1, b1, xs, ys, rfl, .inl ⟨h1.sq, g1.sq, k [(.ref a1, .lst l), (.ref b1, .lst m)] _ _ (zipD l m) μ1 (S1.pinL fun q hq => ?_) ⟨?_, ?_, ?_⟩ q1⟩⟩
  · rcases List.mem_cons.mp hq with hq | hq
    · rw [hq]; exact r
    · rw [List.mem_singleton.mp hq]; exact r'
  · intro G' M σ H σd μ i eK eb hF S' hi
    obtain ⟨⟨xs, h1, h2⟩, ys, g1, g2⟩ := again G' M σ H σd μ eK eb hF S'
    unfold zipD at hi
    rw [List.length_zipWith] at hi
    obtain ⟨v, e3, _⟩ := h2.get (List.getElem?_eq_getElem (show i < l.length by omega))
    obtain ⟨w, e4, _⟩ := g2.get (List.getElem?_eq_getElem (show i < m.length by omega))
    exact ⟨xs, ys, v, w, h1, g1, e3, e4⟩
  · intro G' M σ H σd μ eK eb hF S'
    obtain ⟨⟨xs, h1, h2⟩, ys, g1, g2⟩ := again G' M σ H σd μ eK eb hF S'
    unfold zipD
    rw [List.length_zipWith]
    exact ⟨xs, ys, h1, g1, by rw [h2.len, g2.len]; omega⟩
  · intro G' M σ H σd μ i x H' d' eK eb hF S' hi y
    obtain ⟨T, x1, y1, rfl, hT, rfl, yx, yy⟩ := y
    obtain ⟨⟨xs, h1, h2⟩, ys, g1, g2⟩ := again G' M σ H σd μ eK eb hF S'
    unfold zipD at hi
    rw [List.getElem?_zipWith_eq_some] at hi
    obtain ⟨dx, dy, ex, ey, rfl⟩ := hi
    obtain ⟨v, e3, r3⟩ := h2.get ex
    obtain ⟨w, e4, r4⟩ := g2.get ey
    have := yx xs h1
    rw [e3] at this; cases this
    have := yy ys g1
    rw [e4] at this; cases this
    exact ⟨S'.new hT, S'.newT hT ⟨_, _, rfl, r3, _, _, rfl, r4, rfl⟩⟩
theorem e_zip {σ : DSt} {μ : Mem} {ta : DTA} {Q : List D → Mem → Prop} (h : ta σ μ fun ds μ1 => ∃ l m, ds = [.lst l, .lst m] ∧ Q (zipD l m) μ1) : dZip ta σ μ Q := h
theorem e_zip1 {l m : List D} {R : List D → List D → Prop} (h : R l m) : ∃ l' m', [D.lst l, D.lst m] = [.lst l', .lst m'] ∧ R l' m' := ⟨l, m, rfl, h⟩
/-! ### list(range(n)) -/
def dLstRg (t : DTE) : DTE := fun σd μ Q => t σd μ fun x μ1 => ∃ j : Int, x = .int j ∧ (0 ≤ j ∧ j ≤ 16777216) ∧ Q (.lst (rngD 0 j.toNat)) μ1
theorem rgV_rel {K bx M H} (n : Nat) : Rps K bx M H (rngD 0 n) (rgV 0 n) := by
  unfold rngD rgV
  rw [show ((n : Int) - 0).toNat = n by omega]
  have : ∀ l : List Nat, Rps K bx M H (l.map fun (i : Nat) => D.int (0 + (i : Int))) (l.map fun i => V.int (0 + (i : Nat))) := fun l => by
    induction l with
    | nil => rfl
    | cons a l ih => exact ⟨_, _, rfl, rfl, ih⟩
  exact this _
theorem de_listRg {a : Expr} {p p2 pos pos2 : Pos} (he : DE X a t) (hp : ∀ te, PE X a te → PE X (.Call (.Name "list" p) [.Call (.Name "range" p2) [a] [] pos2] [] pos) (tLstRg (tRg1 te))) : DE X (.Call (.Name "list" p) [.Call (.Name "range" p2) [a] [] pos2] [] pos) (dLstRg t) := by
  obtain ⟨te, p, h⟩ := he.ex
  refine ⟨_, hp _ p, fun G M σ H σd μ Q R hK S q k => ?_⟩
  refine h G M σ H σd μ _ _ hK S q fun v H1 d μ1 S1 r1 q1 => ?_
  obtain ⟨j, rfl, ⟨j0, j1⟩, q1⟩ := q1
  obtain ⟨n, rfl⟩ : ∃ n : Nat, j = n := ⟨j.toNat, by omega⟩
  rw [Int.toNat_natCast] at q1
  have e : v = .int (n : Int) := r1
  subst e
  exact ⟨n, rfl, RgOk.of_le (by decide) j1 (by decide) j0, fun q hq => k _ _ _ _ (S1.new hq) (S1.newL hq (rgV_rel n)) q1⟩
theorem e_lstRg {σ : DSt} {μ : Mem} {Q : D → Mem → Prop} (h : t σ μ fun x μ1 => ∃ j : Int, x = .int j ∧ (0 ≤ j ∧ j ≤ 16777216) ∧ Q (.lst (rngD 0 j.toNat)) μ1) : dLstRg t σ μ Q := h
end
end DL

set_option maxRecDepth 100000
namespace DL
open PySem PySem.Spec L2
/-! ### x = [.. for ..], a list of one's own -/
section
variable {X : Cx} {elt tg iter : Expr} {ifs : List Expr} {scope : Scope} {own : List (Str × Nat)} {pos : Pos} {ti : DTI} {g' : TG} {g : DTG} {tt : DTT} {te : DTE} {tt' : TT}
theorem lc_sndO {wi : TI} (i0 : Nat) (hi : ∀ (G : Gm) (M : Addr → Prop) (σ : St) (H : Hp) (σd : DSt) (μ : Mem) (Q : List D → Mem → Prop) (R : It → Hp → Prop), G.K = X.K → SR G M σ H σd μ → ti σd μ Q →
      (∀ (F : List (V × D)) J H' items μ', SR (G.pinL F) M σ H' σd μ' → ItOk G.K G.bx F J items → Q items μ' → R J H') → wi σ H R) (hg : CG X.K (own.map (·.2)) g' g)
    (ht : ∀ (G : Gm) (M : Addr → Prop) (σ : St) (H : Hp) (σd : DSt) (μ : Mem) (Q : Bool → Mem → Prop) (R : Bool → Hp → Prop), G.K = X.K → SR G M σ H σd μ → tt σd μ Q → (∀ b H' μ', SR G M σ H' σd μ' → Q b μ' → R b H') → tt' σ H R)
    (G : Gm) (M : Addr → Prop) (σ : St) (H : Hp) (σd : DSt) (μ : Mem) (Q : D → Mem → Prop) (R : VK) (hK : G.K = X.K) (S : SR G M σ H σd μ) (hq : dLc ti g tt te (own.map (·.2)) σd μ Q)
    (hil : i0 < σd.length) (k : ∀ (p : Addr) M' H' acc μ', SR G M' (σ.set i0 (some (.ref p))) H' (σd.set i0 (some (.own acc))) μ' → Q (.lst acc) μ' → R (.ref p) H') : tLc wi g' tt' (liftE X.K te) (own.map (·.2)) σ H R := by
  refine hi G M σ H σd μ _ _ hK S hq fun F J H1 items μ1 S1 ok q1 => ?_
  intro Dn hn
  have nM : ¬ M Dn := fun m => by obtain ⟨o, e⟩ := S1.mt Dn m; rw [hn] at e; cases e
  have nb : Dn ∉ G.bx := fun z => nM (S1.m0 Dn (S1.bm Dn z))
  have kD : Kp M (fun a => M a ∨ a = Dn) H1 H1 := fun a o m e => ⟨e, fun z => z.elim m fun z => by rw [z, hn] at e; cases e⟩
  have kDn : ∀ {H2 : Hp} {o : HO}, Kp (fun a => M a ∨ a = Dn) (fun a => M a ∨ a = Dn) H2 (upd H2 Dn o) := fun {H2 o} a u m e => ⟨by rw [upd_ne (fun z => m (.inr z))]; exact e, m⟩
  have bxne : ∀ {i : Nat} {a : Addr}, G.bx[i]? = some a → a ≠ Dn := fun {i a} e z => nb (by rw [← z]; exact List.mem_of_getElem? e)
  refine ⟨fun i m H2 => m = items.length - i ∧ i ≤ items.length ∧ ∃ μ2 acc xs, Aft G.K G.bx (fun a => M a ∨ a = Dn) H1 H2 μ2 ∧ H2 Dn = some (.lst xs) ∧ Rps G.K G.bx (fun a => M a ∨ a = Dn) H2 acc xs ∧
      dLcLoop g tt te (hideD σd (own.map (·.2))) (items.drop i) acc μ2 fun acc μ2 => Q (.lst acc) μ2, ⟨items.length, rfl, Nat.zero_le _, μ1, [], [], ?_, upd_same, rfl, q1⟩, ?_⟩
  · refine ⟨fun a o _ e => by rw [upd_ne (ne_of_none e hn)]; exact e, S1.blen, fun i a l e1 e2 => ?_⟩
    obtain ⟨ys, h1, h2⟩ := S1.box i a l e1 e2
    exact ⟨ys, by rw [upd_ne (bxne e1)]; exact h1, Rps.stay kDn _ _ (Rps.stay kD _ _ h2)⟩
  · rintro i m H2 ⟨rfl, hi, μ2, acc, xs, A, hD, rs, q2⟩
    have S2 := S1.sub (own.map (·.2)) A hn hD
    have mF : ∀ q ∈ F, q ∈ (G.pinL F).Fr := fun q hq => List.mem_append_left _ hq
    by_cases hlt : i < items.length
    · refine .inr ⟨ok.go ⟨G.K, G.bx, fun a => M a ∨ a = Dn, H2, (G.pinL F).Fr⟩ _ _ H2 _ μ2 i rfl rfl mF S2 hlt, fun H' => ∃ μ2 acc xs, Aft G.K G.bx (fun a => M a ∨ a = Dn) H1 H' μ2 ∧ H' Dn = some (.lst xs) ∧ Rps G.K G.bx (fun a => M a ∨ a = Dn) H' acc xs ∧
          dLcLoop g tt te (hideD σd (own.map (·.2))) (items.drop (i + 1)) acc μ2 fun acc μ2 => Q (.lst acc) μ2, ?_, ?_⟩
      · rintro H3 ⟨μ3, acc3, xs3, h1, h2, h3, h4⟩
        exact ⟨items.length - (i + 1), by omega, rfl, hlt, μ3, acc3, xs3, h1, h2, h3, h4⟩
      · intro x H3 y
        rw [List.drop_eq_getElem_cons hlt] at q2
        obtain ⟨S3, r3⟩ := ok.yld ⟨G.K, G.bx, fun a => M a ∨ a = Dn, H2, (G.pinL F).Fr⟩ _ _ H2 _ μ2 i x H3 items[i] rfl rfl mF S2 (List.getElem?_eq_getElem hlt) y
        refine hg ⟨G.K, G.bx, fun a => M a ∨ a = Dn, H2, (G.pinL F).Fr⟩ _ _ H3 _ μ2 items[i] x _ _ hK S3 r3 q2 fun σ4 H4 σd4 μ4 S4 w4 q4 => ?_
        refine ⟨w4.trans ?_, ?_⟩
        · exact wipe_wipe σ _
        refine ht ⟨G.K, G.bx, fun a => M a ∨ a = Dn, H2, (G.pinL F).Fr⟩ _ σ4 H4 σd4 μ4 _ _ hK S4 q4 fun b H5 μ5 S5 q5 => ?_
        have back : ∀ {H6 : Hp} {μ6 : Mem}, SR ⟨G.K, G.bx, fun a => M a ∨ a = Dn, H2, (G.pinL F).Fr⟩ (fun a => M a ∨ a = Dn) σ4 H6 σd4 μ6 → Aft G.K G.bx (fun a => M a ∨ a = Dn) H1 H6 μ6 ∧ H6 Dn = some (.lst xs) ∧ Rps G.K G.bx (fun a => M a ∨ a = Dn) H6 acc xs := fun {H6 μ6} S6 => by
          refine ⟨A.trans (.of_sr S6), S6.keep Dn _ nb hD, ?_⟩
          exact Rps.stay (fun a o m e => ⟨S6.keep a o (fun z => m (.inl (S1.m0 a (S1.bm a z)))) e, m⟩) _ _ rs
        cases b with
        | false =>
          rw [if_neg (by decide)] at q5 ⊢
          obtain ⟨h1, h2, h3⟩ := back S5
          exact ⟨μ5, acc, xs, h1, h2, h3, q5⟩
        | true =>
          rw [if_pos rfl] at q5 ⊢
          refine ⟨⟨G.K, G.bx, fun a => M a ∨ a = Dn, H2, (G.pinL F).Fr⟩, _, σd4, μ5, _, hK, S5, q5, fun v H6 d μ6 S6 r6 q6 => ?_⟩
          obtain ⟨h1, h2, h3⟩ := back S6
          refine ⟨xs, h2, by rw [h3.len]; exact q6.1, μ6, acc ++ [d], xs ++ [v], ⟨fun a o hb e => by rw [upd_ne (ne_of_none e hn)]; exact h1.keep a o hb e, h1.blen, fun j a l e1 e2 => ?_⟩, upd_same, Rps.stay kDn _ _ (h3.app (.one r6)), q6.2⟩
          obtain ⟨ys, e3, r3⟩ := h1.box j a l e1 e2
          exact ⟨ys, by rw [upd_ne (bxne e1)]; exact e3, Rps.stay kDn _ _ r3⟩
    · have e : i = items.length := by omega
      subst e
      rw [List.drop_length] at q2
      have S3 := (S1.unpinL.ownSet (l := []) (xs := []) i0 hn rfl).after (H' := upd H2 Dn (.lst [])) (μ' := μ2) ⟨fun a o hb e => by
          by_cases z : a = Dn
          · subst z; rw [upd_same] at e ⊢; exact e
          · rw [upd_ne z] at e ⊢; exact A.keep a o hb e, A.blen, fun i a l e1 e2 => by
          obtain ⟨ys, h1, h2⟩ := A.box i a l e1 e2
          exact ⟨ys, by rw [upd_ne (bxne e1)]; exact h1, Rps.stay kDn _ _ h2⟩⟩
      have S4 := S3.ownUpd i0 (List.getElem?_set_self hil) (List.getElem?_set_self (by rw [S1.len]; exact hil)) (Rps.stay kDn _ _ rs)
      have e : upd (upd H2 Dn (.lst [])) Dn (.lst xs) = H2 := funext fun a => by
        by_cases z : a = Dn
        · subst z; rw [upd_same, hD]
        · rw [upd_ne z, upd_ne z]
      rw [e, List.set_set] at S4
      exact .inl ⟨ok.stop ⟨G.K, G.bx, fun a => M a ∨ a = Dn, H2, (G.pinL F).Fr⟩ _ _ H2 _ μ2 rfl rfl mF S2, k Dn _ H2 acc μ2 S4 q2⟩

end
def dOwnLc (i : Nat) (t : DTE) : DTS := fun De σd μ => i < σd.length ∧ t σd μ fun d μ' => match d with | .lst l => De.nx (σd.set i (some (.own l))) μ' | _ => False
theorem e_ownLc {i : Nat} {t : DTE} {De : DEnds} {σ : DSt} {μ : Mem} (h1 : i < σ.length) (h : t σ μ fun d μ' => match d with | .lst l => De.nx (σ.set i (some (.own l))) μ' | _ => False) : dOwnLc i t De σ μ := ⟨h1, h⟩
section
variable {X : Cx} {elt tg iter : Expr} {ifs : List Expr} {scope : Scope} {own : List (Str × Nat)} {pos spos py : Pos} {ti : DTI} {g' : TG} {g : DTG} {tt : DTT} {te : DTE} {y : Str} {i : Nat}
theorem ds_ownLc (hi : DI X tg iter ti) (hg : CG X.K (own.map (·.2)) g' g)
    (ht : ∃ tt', (∀ (s : Shared) (H : Hp) (C : Addr) (cl : List (Str × Addr)) (fp : List Addr), PTs (X.blk s H scope (compEnvC scope cl C X.env) fp) ifs tt') ∧
      ∀ (G : Gm) (M : Addr → Prop) (σ : St) (H : Hp) (σd : DSt) (μ : Mem) (Q : Bool → Mem → Prop) (R : Bool → Hp → Prop), G.K = X.K → SR G M σ H σd μ → tt σd μ Q → (∀ b H' μ', SR G M σ H' σd μ' → Q b μ' → R b H') → tt' σ H R)
    (he : ∀ (s : Shared) (H : Hp) (C : Addr) (cl : List (Str × Addr)) (fp : List Addr), DE (X.blk s H scope (compEnvC scope cl C X.env) fp) elt te)
    (hp : ∀ wi tt' te', PI X tg iter wi → (∀ (s : Shared) (H : Hp) (C : Addr) (cl : List (Str × Addr)) (fp : List Addr), PTs (X.blk s H scope (compEnvC scope cl C X.env) fp) ifs tt') →
      (∀ (s : Shared) (H : Hp) (C : Addr) (cl : List (Str × Addr)) (fp : List Addr), PE (X.blk s H scope (compEnvC scope cl C X.env) fp) elt te') → PS X (.Assign [.Name y py] (.ListComp elt [⟨tg, iter, ifs, 0⟩] scope pos) spos) (tAsg (tLc wi g' tt' te' (own.map (·.2))) (gName i))) :
    DS X (.Assign [.Name y py] (.ListComp elt [⟨tg, iter, ifs, 0⟩] scope pos) spos) (dOwnLc i (dLc ti g tt te (own.map (·.2)))) := by
  obtain ⟨wi, p, h⟩ := hi.ex
  obtain ⟨tt', p2, h2⟩ := ht
  refine ⟨_, hp _ _ (liftE X.K te) p p2 fun s H C cl fp => (he s H C cl fp).lift, fun G M σ H σd μ De E hK S q L => ?_⟩
  exact lc_sndO i h hg h2 G M σ H σd μ _ _ hK S q.2 q.1 fun p M' H' acc μ' S' q' => L.nx _ _ _ _ _ S' q'

end
end DL

set_option maxRecDepth 100000
namespace DL
open PySem PySem.Spec L2 PyProof.Rows
section
variable {X : Cx} {e : Expr} {t : DTE} {pos : Pos} {tg : Expr}
/-! ### for i in reversed(range(n)) -/
theorem rngRev_it {K : PySem.W.Frag} {bx : List Addr} (n : Nat) : ItOk K bx [] (Itc (0 + (n : Int) - 1) (-1) n) (rngD 0 n).reverse := by
  refine ⟨?_, ?_, ?_⟩
  · intro G' M σ H σd μ i eK eb hF S' hi
    rw [List.length_reverse, rngD_len] at hi
    exact hi
  · intro G' M σ H σd μ eK eb hF S'
    rw [List.length_reverse, rngD_len]
    exact Nat.le_refl n
  · intro G' M σ H σd μ i x H' d' eK eb hF S' hi y
    obtain ⟨rfl, rfl⟩ := y
    have hi' := (List.getElem?_eq_some_iff.mp hi).1
    rw [List.length_reverse, rngD_len] at hi'
    rw [List.getElem?_reverse (by rw [rngD_len]; exact hi'), rngD_len] at hi
    unfold rngD at hi
    rw [List.getElem?_map, List.getElem?_range (by omega)] at hi
    cases hi
    refine ⟨S', ?_⟩
    show V.int _ = V.int _
    congr 1
    omega
def dRevRg (t : DTE) : DTI := fun σd μ Q => t σd μ fun x μ1 => ∃ j : Int, x = .int j ∧ (-(2 ^ 62) ≤ j ∧ j < 2 ^ 62) ∧ Q (rngD 0 j.toNat).reverse μ1
theorem di_revRg {a : Expr} {p p2 pos2 : Pos} (he : DE X a t) (hp : ∀ te, PE X a te → PI X tg (.Call (.Name "reversed" p) [.Call (.Name "range" p2) [a] [] pos2] [] pos) (iRevR (tRg1 te))) : DI X tg (.Call (.Name "reversed" p) [.Call (.Name "range" p2) [a] [] pos2] [] pos) (dRevRg t) := by
  obtain ⟨te, p, h⟩ := he.ex
  refine ⟨_, hp _ p, fun G M σ H σd μ Q R hK S q k => ?_⟩
  refine h G M σ H σd μ _ _ hK S q fun v H1 d μ1 S1 r1 q1 => ?_
  obtain ⟨j, rfl, ⟨j0, j1⟩, q1⟩ := q1
  have e : v = .int j := r1
  subst e
  refine ⟨j, rfl, by decide, by decide, j0, j1, ?_⟩
  rw [Int.sub_zero]
  exact k [] _ _ _ _ (S1.pinL fun q hq => nomatch hq) (rngRev_it j.toNat) q1
theorem e_revRg {σ : DSt} {μ : Mem} {Q : List D → Mem → Prop} (h : t σ μ fun x μ1 => ∃ j : Int, x = .int j ∧ (-(2 ^ 62) ≤ j ∧ j < 2 ^ 62) ∧ Q (rngD 0 j.toNat).reverse μ1) : dRevRg t σ μ Q := h
theorem e_revRg1 {R : Int → Prop} {j : Int} (hj : -(2 ^ 62) ≤ j ∧ j < 2 ^ 62) (h : R j) : ∃ j' : Int, D.int j = .int j' ∧ (-(2 ^ 62) ≤ j' ∧ j' < 2 ^ 62) ∧ R j' := ⟨j, rfl, hj, h⟩
end
/-! ### x = a + b, a list of one's own -/
section
variable {X : Cx} {pos : Pos} {ta tb : DTE}
def dOwnAdd (i : Nat) (ta tb : DTE) : DTS := fun De σd μ => ta σd μ fun x μ1 => tb σd μ1 fun y μ2 => ∃ l m, rawOf μ2 x = some l ∧ rawOf μ2 y = some m ∧ l.length + m.length ≤ sizeLine ∧ De.nx (σd.set i (some (.own (l ++ m)))) μ2
theorem ds_ownAdd {i : Nat} {x : Str} {pos' p2 : Pos} {a b : Expr} (hN : X.N.Nodup) (hi : X.N[i]? = some x) (hx : Loc X.env.scope x) (ha : DE X a ta) (hb : DE X b tb) (hs : swapsWith (.BinOp a .Add b p2) (some (.Name x pos')) pos.line X.env = pure false := by rfl) (hf : X.fn x = true ∨ X.env.scope.names.lookup x = some .local := by first | exact .inl rfl | exact .inr rfl | assumption) :
    DS X (.Assign [.Name x pos'] (.BinOp a .Add b p2) pos) (dOwnAdd i ta tb) := by
  obtain ⟨te, pa, h1⟩ := ha.ex
  obtain ⟨te', pb, h2⟩ := hb.ex
  refine ⟨_, ps_set hN hi hx (pe_op op_cat pa pb) hs hf, fun G M σ H σd μ De E hK S q L => ?_⟩
  refine h1 G M σ H σd μ _ _ hK S q fun v H1 d μ1 S1 r1 q1 => ?_
  refine h2 (G.pin v d) M σ H1 σd μ1 _ _ hK (S1.pin r1) q1 fun v2 H2 d2 μ2 S2 r2 q2 => ?_
  obtain ⟨S2', r1'⟩ := S2.unpin
  obtain ⟨l, m, e1, e2, z, q⟩ := q2
  obtain ⟨a, xs, rfl, g1, rs⟩ := sq_raw S2' r1' e1
  obtain ⟨b, ys, rfl, g2, rs'⟩ := sq_raw S2' r2 e2
  exact ⟨a, b, xs, ys, rfl, rfl, g1, g2, by rw [rs.len, rs'.len]; exact z, fun p hp => L.nx _ _ _ _ _ (S2'.ownSet i hp (rs.app rs')) q⟩
theorem e_ownAdd {i : Nat} {De : DEnds} {σ : DSt} {μ : Mem} (h : ta σ μ fun x μ1 => tb σ μ1 fun y μ2 => ∃ l m, rawOf μ2 x = some l ∧ rawOf μ2 y = some m ∧ l.length + m.length ≤ sizeLine ∧ De.nx (σ.set i (some (.own (l ++ m)))) μ2) : dOwnAdd i ta tb De σ μ := h
theorem e_ownAdd2 {μ : Mem} {x y : D} {l m : List D} {R : List D → List D → Prop} (h1 : rawOf μ x = some l) (h2 : rawOf μ y = some m) (h3 : l.length + m.length ≤ sizeLine) (h : R l m) : ∃ l m, rawOf μ x = some l ∧ rawOf μ y = some m ∧ l.length + m.length ≤ sizeLine ∧ R l m := ⟨l, m, h1, h2, h3, h⟩
end
end DL

set_option maxRecDepth 100000
namespace DL
open PySem PySem.Spec L2 PyProof.Rows
/-! ### in, not in: flat items -/
def flD : D → Bool
  | .non => true
  | .bl _ => true
  | .int _ => true
  | .str _ => true
  | _ => false
def toV : D → V
  | .bl b => .bl b
  | .int i => .int i
  | .str x => .str x
  | _ => .non
def eqF (x y : D) : Bool := eqV (toV x) (toV y)
def inD (x : D) (l : List D) : Bool := l.any fun y => eqF y x
theorem flat_toV {K bx M H} {d : D} {v : V} (f : flD d = true) (r : Rp K bx M H d v) : v = toV d ∧ flatV v = true := by
  cases d with
  | non => exact ⟨r, by rw [show v = .non from r]; rfl⟩
  | bl b => exact ⟨r, by rw [show v = .bl b from r]; rfl⟩
  | int i => exact ⟨r, by rw [show v = .int i from r]; rfl⟩
  | str x => exact ⟨r, by rw [show v = .str x from r]; rfl⟩
  | _ => cases f
theorem flat_toVs {K bx M H} : ∀ {l : List D} {xs : List V}, l.all flD = true → Rps K bx M H l xs → xs = l.map toV ∧ xs.all flatV = true
  | [], xs, _, r => by rw [show xs = [] from r]; exact ⟨rfl, rfl⟩
  | d :: l, xs, f, r => by
    obtain ⟨v, ys, rfl, r1, r2⟩ := r
    rw [List.all_cons, Bool.and_eq_true] at f
    obtain ⟨e1, f1⟩ := flat_toV f.1 r1
    obtain ⟨e2, f2⟩ := flat_toVs f.2 r2
    exact ⟨by rw [e1, e2]; rfl, by rw [List.all_cons, f1, f2]; rfl⟩
section
variable {X : Cx}
def dIn (neg : Bool) : DR2 := fun x y μ Q => ∃ l, seqOf μ y = some l ∧ flD x = true ∧ l.all flD = true ∧ Q (.bl (if neg then !inD x l else inD x l)) μ
theorem inV_map (x : D) (l : List D) : inV (toV x) (l.map toV) = inD x l := by
  unfold inV inD eqF
  rw [List.any_map]
  rfl
theorem od_in : OD X (compareOp .In) (dIn false) := by
  refine ⟨_, op_in_seq, fun G M σ H σd μ x y dx dy Q R hK S rx ry q k => ?_⟩
  obtain ⟨l, e, fx, fl, q⟩ := q
  obtain ⟨a, xs, rfl, hs, rs⟩ := sq_seq S ry e
  obtain ⟨e1, f1⟩ := flat_toV fx rx
  obtain ⟨e2, f2⟩ := flat_toVs fl rs
  subst e1 e2
  refine ⟨a, _, rfl, by rw [← hK]; exact hs, f1, f2, ?_⟩
  rw [inV_map]
  exact k _ _ (.bl _) _ S rfl q
theorem od_notIn : OD X (compareOp .NotIn) (dIn true) := by
  refine ⟨_, op_notIn_seq, fun G M σ H σd μ x y dx dy Q R hK S rx ry q k => ?_⟩
  obtain ⟨l, e, fx, fl, q⟩ := q
  obtain ⟨a, xs, rfl, hs, rs⟩ := sq_seq S ry e
  obtain ⟨e1, f1⟩ := flat_toV fx rx
  obtain ⟨e2, f2⟩ := flat_toVs fl rs
  subst e1 e2
  refine ⟨a, _, rfl, by rw [← hK]; exact hs, f1, f2, ?_⟩
  rw [inV_map]
  exact k _ _ (.bl _) _ S rfl q
theorem e_in {x y : D} {μ : Mem} {Q : D → Mem → Prop} {l : List D} (h1 : seqOf μ y = some l) (h2 : flD x = true) (h3 : l.all flD = true) (h : Q (.bl (inD x l)) μ) : dIn false x y μ Q := ⟨l, h1, h2, h3, h⟩
theorem e_notIn {x y : D} {μ : Mem} {Q : D → Mem → Prop} {l : List D} (h1 : seqOf μ y = some l) (h2 : flD x = true) (h3 : l.all flD = true) (h : Q (.bl (!inD x l)) μ) : dIn true x y μ Q := ⟨l, h1, h2, h3, h⟩
def dIsB : DR2 := fun x y μ Q => ∃ a b, x = .bl a ∧ y = .bl b ∧ Q (.bl (decide (a = b))) μ
theorem od_isB : OD X (compareOp .Is) dIsB := by
  refine ⟨_, op_is_bl, fun G M σ H σd μ x y dx dy Q R hK S rx ry q k => ?_⟩
  obtain ⟨a, b, rfl, rfl, q⟩ := q
  exact ⟨a, b, rx, ry, k _ _ (.bl _) _ S rfl q⟩
def dNotB : DR2 := fun x y μ Q => ∃ a b, x = .bl a ∧ y = .bl b ∧ Q (.bl (!decide (a = b))) μ
theorem od_notB : OD X (compareOp .IsNot) dNotB := by
  refine ⟨_, op_isnot_bl, fun G M σ H σd μ x y dx dy Q R hK S rx ry q k => ?_⟩
  obtain ⟨a, b, rfl, rfl, q⟩ := q
  exact ⟨a, b, rx, ry, k _ _ (.bl _) _ S rfl q⟩
theorem e_isB {a b : Bool} {μ : Mem} {Q : D → Mem → Prop} (h : Q (.bl (decide (a = b))) μ) : dIsB (.bl a) (.bl b) μ Q := ⟨a, b, rfl, rfl, h⟩
theorem e_notB {a b : Bool} {μ : Mem} {Q : D → Mem → Prop} (h : Q (.bl (!decide (a = b))) μ) : dNotB (.bl a) (.bl b) μ Q := ⟨a, b, rfl, rfl, h⟩
/-! ### math.gcd -/
def dGcd : DRC := fun ds μ Q => ∃ a b : Int, ds = [.int a, .int b] ∧ Q (.int ((Nat.gcd a.natAbs b.natAbs : Nat) : Int)) μ
theorem cd_gcd : CD X (.builtin "math.gcd") dGcd := by
  refine ⟨_, cr_gcd, fun G M σ H σd μ xs ds Q R hK S r q k => ?_⟩
  obtain ⟨i, j, rfl, q⟩ := q
  obtain ⟨v, v', rfl, r1, r2⟩ := rps2 r
  exact ⟨i, j, by rw [show v = .int i from r1, show v' = .int j from r2], k _ _ _ _ S (rpI _) q⟩
theorem de_callBfun {x : Str} {p pos : Pos} {e : Expr} {es : List Expr} {id : String} {rd : DRC} {tr : DTA} (hc : CD X (.builtin id) rd) (hg : Gl X x) (hm : X.mg x = some (.builtin id)) (ha : DA X (e :: es) tr) (hdb : (x == ("__debug__" : Str)) = false := by decide)
    (he : starEach (e :: es) X.env = (false, eval e X.env) :: starEach es X.env := by rfl) (hpl : (backTo pos (starEach es X.env)).any (·.1) = false := by rfl) : DE X (.Call (.Name x p) (e :: es) [] pos) (dCB rd tr) := by
  obtain ⟨r, hc, hr⟩ := hc.ex
  obtain ⟨te, p, h⟩ := ha.ex
  refine ⟨_, pe_callBfun hc hg hm p hdb he hpl, fun G M σ H σd μ Q R hK S hq k => ?_⟩
  exact h G M σ H σd μ _ _ hK S hq fun vs H1 ds μ1 S1 r1 q1 => hr G M σ H1 σd μ1 _ _ _ _ hK S1 r1 q1 k
theorem e_gcd {a b : Int} {μ : Mem} {Q : D → Mem → Prop} (h : Q (.int ((Nat.gcd a.natAbs b.natAbs : Nat) : Int)) μ) : dGcd [.int a, .int b] μ Q := ⟨a, b, rfl, h⟩
end
end DL

set_option maxRecDepth 100000
namespace DL
open PySem PySem.Spec L2 PyProof.Rows
section
variable {X : Cx} {sts : List Stmt} {u : DTS}
/-- a list left as a value, whether it is one's own or already left -/
def dFreezeA (i : Nat) (u : DTS) : DTS := fun De σd μ => (∃ l, σd[i]? = some (some (.own l)) ∧ u De (σd.set i (some (.lst l))) μ) ∨ (∃ l, σd[i]? = some (some (.lst l)) ∧ u De σd μ)
theorem dss_freezeA (i : Nat) (h : DSs X sts u) : DSs X sts (dFreezeA i u) := by
  obtain ⟨ts, p, h⟩ := h.ex
  refine ⟨_, p, fun G M σ H σd μ De E hK S q L => ?_⟩
  rcases q with ⟨l, e, q⟩ | ⟨l, e, q⟩
  · obtain ⟨M', S'⟩ := S.freeze e
    exact h G M' σ H _ μ De E hK S' q L
  · exact h G M σ H _ μ De E hK S q L
theorem e_frzA1 {i : Nat} {l : List D} {De : DEnds} {σ : DSt} {μ : Mem} (h1 : σ[i]? = some (some (.own l))) (h : u De (σ.set i (some (.lst l))) μ) : dFreezeA i u De σ μ := .inl ⟨l, h1, h⟩
theorem e_frzA2 {i : Nat} {l : List D} {De : DEnds} {σ : DSt} {μ : Mem} (h1 : σ[i]? = some (some (.lst l))) (h : u De σ μ) : dFreezeA i u De σ μ := .inr ⟨l, h1, h⟩
end
end DL

set_option maxRecDepth 100000
namespace DL
open PySem PySem.Spec PyProof.Rows L2
/-! ### ranges with a step above 0, of any size -/
theorem turn_longC {P : Program} {w : World} {K : PySem.W.Frag} {tg : Expr} (it : Addr) (lo c : Int) (n : Nat) : Turn P w K tg (Itc lo c n) [it] it (fun i h => IsLongIter h it (lo + (i : Nat) * c) ((n : Int) - (i : Nat)) c) := by
  refine ⟨List.mem_singleton.mpr rfl, ?_, fun i h h' st k => k it (List.mem_singleton.mpr rfl) _ st, ?_, ?_, fun _ _ _ _ _ st h => wpAny_pyIter_longiter st h⟩
  · intro i h st b hb
    cases List.mem_singleton.mp hb
    refine ⟨_, st, fun v z => ?_⟩
    cases (show Data.fields _ = Data.cell v from z)
  · rintro X rfl rfl rfl hc i pins s σ H E I hf st hg
    have hit := hf it (List.mem_singleton.mpr rfl)
    refine (Walks.longrange (prog := X.prog) (w := X.w) (I.ok.hd hc) it lo c n).item i s _ _ hg st ?_
    rintro v h' tk ⟨t, rfl⟩ st' kk
    have J : Inv X pins σ H { s with heap := h', toks := tk } := I.turned (fun b o hb e => kk b o (fun z => hb (List.mem_singleton.mp z)) e) hit.1 hit.2.1 hit.2.2.2.1 hit.2.2.2.2.1 hit.2.2.2.2.2
    refine ⟨_, rfl, go_of (s := { s with heap := h', toks := tk }) (n := "longrange_iterator") st' rfl rfl (by decide) ?_⟩
    exact ⟨.int (lo + (i : Nat) * c), H, J, ⟨t, rfl⟩, ⟨rfl, rfl⟩, st', fun b hb => (hf b hb).1⟩
  · rintro X rfl rfl rfl hc i pins s σ H E I hf st hg
    have hit := hf it (List.mem_singleton.mpr rfl)
    have hn : n ≤ i := hg
    refine wpAny_pyNext_long_end (I.ok.hd hc) st (by omega) fun h' eb => ⟨rfl, ?_⟩
    exact I.turned (t' := s.toks) (fun b o hb e => eb b o hb e) hit.1 hit.2.1 hit.2.2.2.1 hit.2.2.2.2.1 hit.2.2.2.2.2
theorem rangeSize_nn {a b c : Int} (h : 0 < c) : 0 ≤ Builtin.Range.rangeSize a b c := by
  unfold Builtin.Range.rangeSize
  rw [if_pos (show c > 0 from h)]
  split
  · have := Int.ediv_nonneg (show 0 ≤ b - a - 1 by omega) (Int.le_of_lt h)
    omega
  · decide
theorem range_wideC {X : Cx} {tg : Expr} {pins : List (Addr × Obj)} {σ : List (Option V)} {H : Hp} {s : Shared} {R : It → Hp → Prop} {E : Value → Shared → Prop} {lo hi c : Int} {t u v : Tok} {tk : Nat} (c0 : 0 < c) (I : Inv X pins σ H s)
    (q : R (Itc lo c (Builtin.Range.rangeSize lo hi c).toNat) H) : wpAny (model X.prog X.w) X.A (pyIter (.ref s.heap.objs.size)) (PIE X pins σ tg R) E { s with heap := s.heap.push { cls := .type "range", data := .fields #[.int lo t, .int hi u, .int c v] }, toks := tk } := by
  let h1 := s.heap.push { cls := .type "range", data := .fields #[.int lo t, .int hi u, .int c v] }
  have I1 : Inv X pins σ H { s with heap := h1, toks := tk } := I.kept fun b o e => Heap.get?_push_of_some _ e
  have sz : (((Builtin.Range.rangeSize lo hi c).toNat : Nat) : Int) - ((0 : Nat) : Int) = Builtin.Range.rangeSize lo hi c := by have := rangeSize_nn (a := lo) (b := hi) c0; omega
  have e1 : lo + ((0 : Nat) : Int) * c = lo := by simp
  have new : ∀ b ∈ [h1.objs.size], FpOk X pins H b := fun b hb => by
    cases List.mem_singleton.mp hb
    exact I1.fpOk (Nat.le_refl _) (I1.hok.fresh (Nat.le_refl _))
  cases sm : Builtin.Range.small lo hi c with
  | true =>
    refine wpAny_pyIter_range (IsRange.new ..) sm ?_
    refine ⟨h1.objs.size, [h1.objs.size], _, _, H, rfl, I1.kept (t' := tk) fun b o e => Heap.get?_push_of_some _ e, turn_rangeC _ lo c (Builtin.Range.rangeSize lo hi c).toNat, ?_, new, q⟩
    show IsRangeIter _ _ (lo + ((0 : Nat) : Int) * c) ((((Builtin.Range.rangeSize lo hi c).toNat : Nat) : Int) - ((0 : Nat) : Int)) c
    rw [e1, sz]
    exact Heap.get?_push_size _ rfl
  | false =>
    refine wpAny_pyIter_longrange (IsRange.new ..) sm ?_
    refine ⟨h1.objs.size, [h1.objs.size], _, _, H, rfl, I1.kept (t' := tk) fun b o e => Heap.get?_push_of_some _ e, turn_longC _ lo c (Builtin.Range.rangeSize lo hi c).toNat, ?_, new, q⟩
    show IsLongIter _ _ (lo + ((0 : Nat) : Int) * c) ((((Builtin.Range.rangeSize lo hi c).toNat : Nat) : Int) - ((0 : Nat) : Int)) c
    rw [e1, sz]
    exact Heap.get?_push_size _ rfl
def iRngC (ta : TA) : TI := fun σ H R => ta σ H fun vs H1 => ∃ i j c : Int, vs = [.int i, .int j, .int c] ∧ 0 < c ∧ c.natAbs.log2 < 9000 ∧ R (Itc i c (Builtin.Range.rangeSize i j c).toNat) H1
theorem pi_rangeC {X : Cx} {tg a b c : Expr} {ta : TA} {p pos : Pos} (hg : Gl X "range") (hm : X.mg "range" = none) (ha : PA X [a, b, c] ta)
    (hs : starEach [a, b, c] X.env = (false, eval a X.env) :: starEach [b, c] X.env := by rfl) (hpl : (backTo pos (starEach [b, c] X.env)).any (·.1) = false := by rfl) :
    PI X tg (.Call (.Name "range" p) [a, b, c] [] pos) (iRngC ta) := by
  constructor
  intro pins s σ H R I h
  refine Call_ (ld_blt I hg hm boot_range (PyProof.Rows.callWith_type1 (thn (ha.run pos pins s σ H _ I h) ?_) hs hpl))
  rintro us s1 ⟨vs, H1, I1, r, i, j, k, rfl, k0, kl, q⟩
  match us, r with
  | [_, _, _], .cons ⟨t, rfl⟩ (.cons ⟨t', rfl⟩ (.cons ⟨t'', rfl⟩ .nil)) => exact call_range_3 (by omega) (range_wideC k0 I1 q) (.inl (PyProof.noPylong_of_log2 kl))
def rngC (lo c : Int) (n : Nat) : List D := (List.range n).map fun (i : Nat) => D.int (lo + (i : Int) * c)
theorem rngC_len (lo c : Int) (n : Nat) : (rngC lo c n).length = n := by unfold rngC; simp
theorem rngC_it {K : PySem.W.Frag} {bx : List Addr} (lo c : Int) (n : Nat) : ItOk K bx [] (Itc lo c n) (rngC lo c n) := by
  refine ⟨?_, ?_, ?_⟩
  · intro G' M σ H σd μ i eK eb hF S' hi
    rw [rngC_len] at hi
    exact hi
  · intro G' M σ H σd μ eK eb hF S'
    rw [rngC_len]
    exact Nat.le_refl n
  · intro G' M σ H σd μ i x H' d' eK eb hF S' hi y
    obtain ⟨rfl, rfl⟩ := y
    unfold rngC at hi
    rw [List.getElem?_map] at hi
    cases q : (List.range n)[i]? with
    | none => rw [q] at hi; cases hi
    | some j =>
      rw [q] at hi
      obtain ⟨_, e⟩ := List.getElem?_eq_some_iff.mp q
      rw [List.getElem_range] at e
      subst e
      cases hi
      exact ⟨S', rfl⟩
theorem rps3 {K bx M H d d' d''} {xs : List V} (h : Rps K bx M H [d, d', d''] xs) : ∃ v v' v'', xs = [v, v', v''] ∧ Rp K bx M H d v ∧ Rp K bx M H d' v' ∧ Rp K bx M H d'' v'' := by
  obtain ⟨v, r, rfl, h1, h2⟩ := h
  obtain ⟨v', v'', rfl, h3, h4⟩ := rps2 h2
  exact ⟨v, v', v'', rfl, h1, h3, h4⟩
def dRngC (t : DTA) : DTI := fun σd μ Q => t σd μ fun ds μ1 => ∃ i j c : Int, ds = [.int i, .int j, .int c] ∧ 0 < c ∧ c.natAbs.log2 < 9000 ∧ Q (rngC i c (Builtin.Range.rangeSize i j c).toNat) μ1
theorem di_rangeC {X : Cx} {tg a b c : Expr} {ta : DTA} {p pos : Pos} (ha : DA X [a, b, c] ta) (hp : ∀ ta', PA X [a, b, c] ta' → PI X tg (.Call (.Name "range" p) [a, b, c] [] pos) (iRngC ta')) : DI X tg (.Call (.Name "range" p) [a, b, c] [] pos) (dRngC ta) := by
  obtain ⟨te, p, h⟩ := ha.ex
  refine ⟨_, hp _ p, fun G M σ H σd μ Q R hK S q k => ?_⟩
  refine h G M σ H σd μ _ _ hK S q fun vs H1 ds μ1 S1 r1 q1 => ?_
  obtain ⟨i, j, c, rfl, c0, cl, q1⟩ := q1
  obtain ⟨v, v', v'', rfl, r, r', r''⟩ := rps3 r1
  exact ⟨i, j, c, by rw [show v = .int i from r, show v' = .int j from r', show v'' = .int c from r''], c0, cl, k [] _ _ _ _ (S1.pinL fun q hq => nomatch hq) (rngC_it i c _) q1⟩
theorem e_rngC {tr : DTA} {σ : DSt} {μ : Mem} {Q : List D → Mem → Prop} (h : tr σ μ fun ds μ1 => ∃ i j c : Int, ds = [.int i, .int j, .int c] ∧ 0 < c ∧ c.natAbs.log2 < 9000 ∧ Q (rngC i c (Builtin.Range.rangeSize i j c).toNat) μ1) : dRngC tr σ μ Q := h
theorem e_rngCb {i j c : Int} {Q : List D → Prop} (c0 : 0 < c) (cl : c.natAbs.log2 < 9000) (h : Q (rngC i c (Builtin.Range.rangeSize i j c).toNat)) : ∃ i' j' c' : Int, [D.int i, D.int j, D.int c] = [.int i', .int j', .int c'] ∧ 0 < c' ∧ c'.natAbs.log2 < 9000 ∧ Q (rngC i' c' (Builtin.Range.rangeSize i' j' c').toNat) := ⟨i, j, c, rfl, c0, cl, h⟩
/-- c, 2 * c, .., n * c -/
theorem rangeSize_mul {c : Int} (c0 : 0 < c) (n : Nat) : (Builtin.Range.rangeSize c (c * n + 1) c).toNat = n := by
  unfold Builtin.Range.rangeSize
  rw [if_pos (show c > 0 from c0)]
  cases n with
  | zero => rw [if_neg (by simp; omega)]; rfl
  | succ n =>
    have e : c * ((n + 1 : Nat) : Int) = c * n + c := by rw [Int.natCast_add, Int.mul_add]; simp
    have h0 : 0 ≤ c * (n : Int) := Int.mul_nonneg (Int.le_of_lt c0) (by omega)
    rw [e, if_pos (by omega), show c * (n : Int) + c + 1 - c - 1 = n * c by rw [Int.mul_comm]; omega, Int.mul_ediv_cancel _ (by omega)]
    omega
end DL

set_option maxRecDepth 100000
namespace DL
open PySem PySem.Spec L2
/-! ### a list of one's own as the first of four names -/
def Gm.hold (G : Gm) (p : Addr) : Gm := { G with H0 := fun a => if a = p then some (.lst []) else G.H0 a }
section
variable {G : Gm} {M : Addr → Prop} {σ : L2.St} {H : Hp} {σd : DSt} {μ : Mem} {p : Addr}
theorem SR.free (S : SR G M σ H σd μ) (hp : H p = none) : G.H0 p = none ∧ p ∉ G.bx := by
  have nb : p ∉ G.bx := fun hb => by obtain ⟨u, e⟩ := S.mt p (S.m0 p (S.bm p hb)); rw [hp] at e; cases e
  refine ⟨?_, nb⟩
  cases q : G.H0 p with
  | none => rfl
  | some o => have := S.keep p o nb q; rw [hp] at this; cases this
theorem SR.hold (S : SR G M σ H σd μ) (hp : H p = none) : SR (G.hold p) (fun a => M a ∨ a = p) σ (upd H p (.lst [])) σd μ := by
  have nm : ∀ a, M a → a ≠ p := fun a m => by obtain ⟨u, e⟩ := S.mt a m; exact ne_of_none e hp
  have k : Kp M (fun a => M a ∨ a = p) H (upd H p (.lst [])) := fun a o m e => by
    have : a ≠ p := ne_of_none e hp
    exact ⟨by rw [upd_ne this]; exact e, fun z => z.elim m this⟩
  refine ⟨S.len, fun j d e => ?_, S.dist, S.blen, fun j a l e1 e2 => ?_, fun a o h1 h2 => ?_, fun a m => .inl (S.m0 a m), fun q hq => Rp.stay k _ _ (S.fr q hq), fun a m => ?_, S.nd, S.bm, fun a m => ?_⟩
  · obtain ⟨v, ev, r⟩ := S.slot j d e
    refine ⟨v, ev, ?_⟩
    cases d with
    | own l =>
      obtain ⟨q, xs, rfl, m, h0, hq, r⟩ := r
      have ne : q ≠ p := ne_of_none hq hp
      exact ⟨q, xs, rfl, .inl m, by show (if q = p then _ else _) = none; rw [if_neg ne]; exact h0, by rw [upd_ne ne]; exact hq, Rps.stay k _ _ r⟩
    | _ => exact Rp.stay k _ _ r
  · obtain ⟨ys, e3, r3⟩ := S.box j a l e1 e2
    exact ⟨ys, by rw [upd_ne (ne_of_none e3 hp)]; exact e3, Rps.stay k _ _ r3⟩
  · by_cases z : a = p
    · subst z
      have h2 : (if a = a then some (HO.lst []) else G.H0 a) = some o := h2
      rw [if_pos rfl] at h2
      cases h2; exact upd_same
    · have h2 : (if a = p then some (HO.lst []) else G.H0 a) = some o := h2
      rw [if_neg z] at h2
      have := S.keep a o h1 h2
      rw [upd_ne z]; exact this
  · rcases m with m | m
    · obtain ⟨u, e⟩ := S.mt a m
      exact ⟨u, by rw [upd_ne (nm a m)]; exact e⟩
    · subst m; exact ⟨_, upd_same⟩
  · obtain ⟨o, e⟩ := S.m0t a m
    show ∃ o, (if a = p then some (HO.lst []) else G.H0 a) = some o
    split
    · exact ⟨_, rfl⟩
    · exact ⟨o, e⟩
theorem SR.take (S : SR (G.hold p) M σ H σd μ) (mp : M p) (f : G.H0 p = none ∧ p ∉ G.bx) (m0t : ∀ a, G.M0 a → ∃ o, G.H0 a = some o) (i : Nat) : SR G M (σ.set i (some (.ref p))) H (σd.set i (some (.own []))) μ := by
  have hh : ∀ {q : Addr}, (G.hold p).H0 q = none → q ≠ p ∧ G.H0 q = none := fun {q} h => by
    have h : (if q = p then some (HO.lst []) else G.H0 q) = none := h
    by_cases z : q = p
    · rw [if_pos z] at h; cases h
    · rw [if_neg z] at h; exact ⟨z, h⟩
  have hp : H p = some (.lst []) := S.keep p _ f.2 (by show (if p = p then _ else _) = _; rw [if_pos rfl])
  refine ⟨by rw [List.length_set, List.length_set]; exact S.len, fun j d e => ?_, fun j j' q l1 l2 e1 e2 e3 e4 => ?_, S.blen, S.box, fun a o h1 h2 => ?_, S.m0, S.fr, S.mt, S.nd, S.bm, m0t⟩
  · by_cases hj : j = i
    · subst hj
      have hl : j < σd.length := by
        have := (List.getElem?_eq_some_iff.mp e).1
        rwa [List.length_set] at this
      rw [List.getElem?_set_self hl] at e
      cases e
      exact ⟨.ref p, by rw [List.getElem?_set_self (by rw [S.len]; exact hl)], p, [], rfl, mp, f.1, hp, rfl⟩
    · rw [List.getElem?_set_ne (Ne.symm hj)] at e
      obtain ⟨v, ev, r⟩ := S.slot j d e
      refine ⟨v, by rw [List.getElem?_set_ne (Ne.symm hj)]; exact ev, ?_⟩
      cases d with
      | own l =>
        obtain ⟨q, xs, rfl, m, h0, hq, r⟩ := r
        exact ⟨q, xs, rfl, m, (hh h0).2, hq, r⟩
      | _ => exact r
  · have old : ∀ {j : Nat} {l' : List D}, j ≠ i → (σd.set i (some (.own [])))[j]? = some (some (.own l')) → (σ.set i (some (.ref p)))[j]? = some (some (.ref q)) → q ≠ p := fun {j l'} hj e1 e3 => by
      rw [List.getElem?_set_ne (Ne.symm hj)] at e1 e3
      obtain ⟨v, ev, p', xs', rfl, m', h0, _⟩ := S.slot j _ e1
      rw [e3] at ev; cases ev
      exact (hh h0).1
    have new : ∀ {j : Nat} {l' : List D}, j = i → (σd.set i (some (.own [])))[j]? = some (some (.own l')) → (σ.set i (some (.ref p)))[j]? = some (some (.ref q)) → q = p := fun {j l'} hj e1 e3 => by
      subst hj
      have hl : j < σd.length := by
        have := (List.getElem?_eq_some_iff.mp e1).1
        rwa [List.length_set] at this
      rw [List.getElem?_set_self (by rw [S.len]; exact hl)] at e3
      cases e3; rfl
    by_cases h1 : j = i
    · by_cases h2 : j' = i
      · rw [h1, h2]
      · exact absurd (new h1 e1 e3) (old h2 e2 e4)
    · by_cases h2 : j' = i
      · exact absurd (new h2 e2 e4) (old h1 e1 e3)
      · rw [List.getElem?_set_ne (Ne.symm h1)] at e1 e3
        rw [List.getElem?_set_ne (Ne.symm h2)] at e2 e4
        exact S.dist j j' q l1 l2 e1 e2 e3 e4
  · refine S.keep a o h1 ?_
    show (if a = p then some (HO.lst []) else G.H0 a) = some o
    rw [if_neg (fun z => by subst z; rw [f.1] at h2; cases h2)]
    exact h2
end
def dOwn4 (i j k l : Nat) (ta : DTA) : DTS := fun De σd μ => ta σd μ fun ds μ1 => ∃ a b c, ds = [a, b, c] ∧ De.nx ((((σd.set i (some (.own []))).set j (some a)).set k (some b)).set l (some c)) μ1
theorem ds_own4 {X : Cx} {i j k l : Nat} {tg b c d : Expr} {ta : DTA} {p1 p2 pos : Pos} {k2} (ha : DA X [b, c, d] ta)
    (hp : ∀ ta', PA X [.List [] p1, b, c, d] ta' → PS X (.Assign [tg] (.Tuple [.List [] p1, b, c, d] k2 p2) pos) (tAsg (tTup ta') (gTup X.K 4 (gCons (gName i) (gCons (gName j) (gCons (gName k) (gCons (gName l) gNil))))))) :
    DS X (.Assign [tg] (.Tuple [.List [] p1, b, c, d] k2 p2) pos) (dOwn4 i j k l ta) := by
  obtain ⟨te, pa, h⟩ := ha.ex
  refine ⟨_, hp _ (pa_cons (pe_lst pa_nil) pa), fun G M σ H σd μ De E hK S q L => ?_⟩
  refine ⟨Nat.zero_le _, fun p hp => ?_⟩
  refine h (G.hold p) _ σ _ σd μ _ _ hK (S.hold hp) q fun vs H2 ds μ1 S2 r2 q2 => ?_
  obtain ⟨a, b, c, rfl, q2⟩ := q2
  obtain ⟨v, v', v'', rfl, ra, rb, rc⟩ := rps3 r2
  refine ⟨by rw [sizeLine_eq]; show 4 ≤ 16777216; decide, fun t ht => ?_⟩
  have S3 := (S2.take (.inr rfl) (S.free hp) S.m0t i).new (o := .tup [.ref p, v, v', v'']) ht
  have k := S2.kpNew (o := .tup [.ref p, v, v', v'']) ht
  refine ⟨t, _, rfl, SqT.of upd_same, rfl, _, _, rfl, _, _, rfl, _, _, rfl, _, _, rfl, rfl, ?_⟩
  exact L.nx _ _ _ _ _ (((S3.set j (Rp.stay k _ _ ra)).set _ (Rp.stay k _ _ rb)).set l (Rp.stay k _ _ rc)) q2
theorem e_own4 {i j k l : Nat} {ta : DTA} {De : DEnds} {σ : DSt} {μ : Mem} (h : ta σ μ fun ds μ1 => ∃ a b c, ds = [a, b, c] ∧ De.nx ((((σ.set i (some (.own []))).set j (some a)).set k (some b)).set l (some c)) μ1) : dOwn4 i j k l ta De σ μ := h
theorem e_own4b {a b c : D} {R : D → D → D → Prop} (h : R a b c) : ∃ a' b' c', [a, b, c] = [a', b', c'] ∧ R a' b' c' := ⟨a, b, c, rfl, h⟩
end DL

set_option maxRecDepth 100000
namespace DL
open PySem PySem.Spec L2
/-! ### f() -/
theorem pe_callG0 {X : Cx} {k : Nat} {f : Addr} {fd : FuncData} {ps : List Str} {sp : Sp} {x : Str} {p pos : Pos} (F : FnG X.prog X.w X.K X.mg X.base k f fd ps sp) (hg : X.A.guards = some []) (hr : Room k X.A) (gl : Gl X x) (hm : X.mg x = some (.ref f)) (hk : PySem.W.keepIn X.K (.ref f) = true) (hb : Binds X.K fd ps [])
    (hdb : (x == ("__debug__" : Str)) = false := by decide) :
    PE X (.Call (.Name x p) [] [] pos) (fun σ H Q => tNil σ H fun vs H1 => sp vs H1 Q E0) := by
  refine ⟨fun pins s σ H Q I h => ?_⟩
  refine wpAny_Call_Name_kw (ld_glob I gl hm ?_ hdb)
  exact PySem.W.callWith_K0 I.kIn hk (go_fnG (us := []) F hg hr hb I .nil h)
theorem de_call0H {X : Cx} {pos : Pos} {k : Nat} {ps : List Str} {F : DSp} {x : Str} {p : Pos} (Hs : Has X.prog X.w X.K X.mg X.base k x ps F) (hg : X.A.guards = some []) (hr : Room k X.A) (gl : Gl X x)
    (hdb : (x == ("__debug__" : Str)) = false := by decide) : DE X (.Call (.Name x p) [] [] pos) (dCall F dNil) := by
  obtain ⟨f, fd, hm, hk, _, hb, Fn⟩ := Hs
  refine ⟨_, pe_callG0 Fn hg hr gl hm hk (.all hb) hdb, fun G M σ H σd μ Q R hK S q kk => ?_⟩
  refine ⟨G.bx, M, [], μ, Q, by rw [← hK]; exact S.entry, rfl, q, fun v H' d μ' A r q => ?_⟩
  rw [← hK] at A r
  exact kk v H' d μ' (S.after A) r q
end DL

set_option maxRecDepth 100000
namespace DL
open PySem PySem.Spec L2
/-! ### divmod -/
section
variable {X : Cx}
def dDivmod : DRC := fun ds μ Q => ∃ i j : Int, ds = [.int i, .int j] ∧ CDivX i j ∧ Q (.tup [.int (i / j), .int (i % j)]) μ
theorem cd_divmod : CD X (.builtin "divmod") dDivmod := by
  refine ⟨_, call_divmodW, fun G M σ H σd μ xs ds Q R hK S r q k => ?_⟩
  obtain ⟨i, j, rfl, c, q⟩ := q
  obtain ⟨v, v', rfl, r1, r2⟩ := rps2 r
  refine ⟨i, j, by rw [show v = .int i from r1, show v' = .int j from r2], c, fun p hp => ?_⟩
  exact k _ _ _ _ (S.new hp) (S.newT hp (l := [.int (i / j), .int (i % j)]) (xs := [.int (i / j), .int (i % j)]) (Rps.of_ints [i / j, i % j])) q
theorem e_divmod {i j : Int} {μ : Mem} {Q : D → Mem → Prop} (c : CDivW i j) (h : Q (.tup [.int (i / j), .int (i % j)]) μ) : dDivmod [.int i, .int j] μ Q := ⟨i, j, rfl, .of c, h⟩
theorem e_dmB {i j : Int} {μ : Mem} {Q : D → Mem → Prop} (c : CDivW i j) (h : Q (.tup [.int (i / j), .int (i % j)]) μ) : dDivmod [.int i, .int j] μ Q := e_divmod c h
theorem e_neSS {s : Str} {μ : Mem} {Q : D → Mem → Prop} (h : Q (.bl false) μ) : dNe (.str s) (.str s) μ Q := e_neS (by rw [decide_eq_true rfl]; exact h)
end
end DL

set_option maxRecDepth 100000
namespace DL
open PySem PySem.Spec PyProof.Rows L2
/-! ### dicts as values, and what repr shows of them -/
mutual
/-- repr can read it: lists, tuples, dicts, no own lists and none that lie in the written part -/
def D.flr : D → Bool
  | .non => true
  | .bl _ => true
  | .int _ => true
  | .str _ => true
  | .tup l => flrs l
  | .lst l => flrs l
  | .dct _ => true
  | _ => false
def flrs : List D → Bool
  | [] => true
  | d :: l => d.flr && flrs l
end
section
variable {X : Cx} {pins : List (Addr × Obj)} {σ : List (Option V)} {H : Hp} {s : Shared}
theorem dk_pairs {P : Program} {w : World} {h : Heap} : ∀ {l : List (Str × Int)} {es : List DictEntry} {vs : List (Key × Value)}, KV (dkv l) vs → PySem.Pairs (mixKind P w) es vs →
    ReadsAll h (es.map (·.key)) (l.map fun p => PyData.str p.1) [] ∧ ReadsAll h (es.map (·.val)) (l.map fun p => PyData.int p.2) []
  | [], es, vs, r, q => by
    cases r
    cases q
    exact ⟨.nil, .nil⟩
  | (x, i) :: l, es, vs, r, q => by
    cases r with
    | cons h1 h2 =>
      obtain ⟨e1, e2⟩ := h1
      cases q with
      | cons k1 k2 k3 =>
        obtain ⟨a, b⟩ := dk_pairs h2 k3
        rw [← e1] at k1
        rw [← k2] at e2
        have hk := Value.isStrOf_shape (show Value.isStrOf x _ = true from k1)
        obtain ⟨t, ek⟩ := hk
        obtain ⟨t2, ev⟩ := e2
        refine ⟨?_, ?_⟩
        · simp only [List.map_cons]
          rw [ek]
          exact ReadsAll.cons (as := []) (Reads.str x t) a
        · simp only [List.map_cons]
          rw [ev]
          exact ReadsAll.cons (as := []) (Reads.int i t2) b
theorem dct_reads (I : Inv X pins σ H s) {a : Addr} {l : List (Str × Int)} (h : H a = some (.dK (dkv l))) : ∃ as, Reads s.heap (.ref a) (D.dct l).py as ∧ ∀ b ∈ as, b ≠ sysModules := by
  obtain ⟨_, hne, vs, hkv, o, es, ep, ho, ⟨hc, _, _⟩, hd, _, hp, _⟩ := I.hok a _ h
  obtain ⟨r1, r2⟩ := dk_pairs (h := s.heap) hkv hp
  have r : Reads s.heap (.ref a) (.dict (l.map fun p : Str × Int => (PyData.str p.1, PyData.int p.2))) (a :: [] ++ []) :=
    Reads.dict ho hc hd (by rw [List.map_map]; exact r1) (by rw [List.map_map]; exact r2)
  refine ⟨_, (by simp only [D.py]; exact r), fun b hb => ?_⟩
  simp only [List.append_nil, List.mem_cons, List.not_mem_nil, or_false] at hb
  subst hb
  simpa using hne
mutual
theorem Rp.reads {bx : List Addr} {M : Addr → Prop} (I : Inv X pins σ H s) (hm : H sysModules = none) : ∀ (d : D) (v : V) (u : Value), Rp X.K bx M H d v → RelV v u → d.flr = true → ∃ as, Reads s.heap u d.py as ∧ ∀ b ∈ as, b ≠ sysModules
  | .non, _, _, h, r, _ => by
    cases (show _ = _ from h)
    cases r
    exact ⟨_, Reads.none, fun _ h => nomatch h⟩
  | .bl b, _, _, h, r, _ => by
    cases (show _ = _ from h)
    cases r
    exact ⟨_, Reads.bool b, fun _ h => nomatch h⟩
  | .int i, _, _, h, r, _ => by
    cases (show _ = _ from h)
    obtain ⟨t, rfl⟩ := r
    exact ⟨_, Reads.int i t, fun _ h => nomatch h⟩
  | .str x, _, _, h, r, _ => by
    cases (show _ = _ from h)
    obtain ⟨t, rfl⟩ := r
    exact ⟨_, Reads.str x t, fun _ h => nomatch h⟩
  | .tup l, _, _, h, r, f => by
    obtain ⟨a, xs, rfl, o, rs⟩ := h
    cases r
    obtain ⟨its, rv, ⟨ob, ho, hc, n, hd⟩, _⟩ := I.tuple o.sq
    obtain ⟨as, hr, hs⟩ := Rps.reads I hm l _ its rs rv f
    exact ⟨_, Reads.tuple ho hc hd hr, hs⟩
  | .lst l, _, _, h, r, f => by
    obtain ⟨a, xs, rfl, o, rs⟩ := h
    cases r
    obtain ⟨its, rv, ⟨ob, n, ho, hc, _, hd⟩, _⟩ := I.list o.sq
    obtain ⟨as, hr, hs⟩ := Rps.reads I hm l _ its rs rv f
    refine ⟨_, Reads.list ho hc hd hr, fun b hb => ?_⟩
    rcases List.mem_cons.mp hb with rfl | hb
    · intro z
      rw [z] at o
      rw [OkL] at o
      rw [hm] at o
      exact nomatch o.2
    · exact hs b hb
  | .dct l, _, _, h, r, _ => by
    obtain ⟨a, rfl, _, h⟩ := h
    cases r
    exact dct_reads I h
  | .frz l, _, _, _, _, f => nomatch f
  | .own l, _, _, _, _, f => nomatch f
  | .box l, _, _, _, _, f => nomatch f
  | .ty l, _, _, _, _, f => nomatch f
  | .exc _ _ _ _, _, _, _, _, f => nomatch f
theorem Rps.reads {bx : List Addr} {M : Addr → Prop} (I : Inv X pins σ H s) (hm : H sysModules = none) : ∀ (l : List D) (vs : List V) (us : List Value), Rps X.K bx M H l vs → Vals vs us → flrs l = true → ∃ as, ReadsAll s.heap us (pys l) as ∧ ∀ b ∈ as, b ≠ sysModules
  | [], vs, us, h, r, _ => by
    cases (show vs = [] from h)
    cases r
    exact ⟨_, ReadsAll.nil, fun _ h => nomatch h⟩
  | d :: l, _, _, h, r, f => by
    obtain ⟨v, vr, rfl, h1, h2⟩ := h
    simp only [flrs, Bool.and_eq_true] at f
    cases r with
    | cons r1 r2 =>
      obtain ⟨as, q1, z1⟩ := Rp.reads I hm d _ _ h1 r1 f.1
      obtain ⟨bs, q2, z2⟩ := Rps.reads I hm l _ _ h2 r2 f.2
      exact ⟨_, ReadsAll.cons q1 q2, fun b hb => (List.mem_append.mp hb).elim (z1 b) (z2 b)⟩
end
end
section
variable {X : Cx}
def D.shwX (d : D) : Prop := d.flr = true ∧ d.py.showable = true ∧ d.py.depth ≤ 50 ∧ d.py.shown.length ≤ sizeLine
def dReprX : DRC := fun ds μ Q => ∃ d, ds = [d] ∧ d.shwX ∧ Q (.str d.py.shown) μ
theorem inv_sysm {pins : List (Addr × Obj)} {σ : List (Option V)} {H : Hp} {s : Shared} (I : Inv X pins σ H s) (hs : ∃ o, X.K.lookup sysModules = some o) : H sysModules = none := by
  obtain ⟨o, e⟩ := hs
  exact (I.bs _ _ (I.ok.mod.kin _ _ e)).2
theorem call_reprX (hg : X.A.guards = some []) (hu : X.A.units + 64 < cLine) (hs : ∃ o, X.K.lookup sysModules = some o) : CallR X (.builtin "repr") (fun xs H Q => ∃ (v : V) (d : D) (bx : List Addr) (M : Addr → Prop), xs = [v] ∧ Rp X.K bx M H d v ∧ d.shwX ∧ Q (.str d.py.shown) H) := by
  intro pins s σ H xs us Q I r h
  obtain ⟨v, d, bx, M, rfl, rp, ⟨hf, hs1, hd, hz⟩, q⟩ := h
  obtain ⟨u, rfl, rv⟩ := Vals.one r
  obtain ⟨as, rd, nsm⟩ := Rp.reads I (inv_sysm I hs) d v u rp rv hf
  cases hdd : d.py with
  | none =>
    rw [hdd] at rd q
    cases rd
    exact PySem.P.repr_of_none ⟨.str _, H, I.tok _, ⟨_, rfl⟩, q⟩
  | bool b =>
    rw [hdd] at rd q
    cases rd
    exact PySem.P.repr_of_bool ⟨.str _, H, I.tok _, ⟨_, by simp only [PyData.shown]; rfl⟩, q⟩
  | int i =>
    rw [hdd] at rd q hs1
    cases rd
    exact PySem.P.repr_of_int (by simpa [PyData.showable] using hs1) ⟨.str _, H, I.tok _, ⟨_, by simp only [PyData.shown]; rfl⟩, q⟩
  | str z =>
    rw [hdd] at rd q hz
    cases rd
    exact PySem.P.repr_of_str ⟨.str _, H, I.tok _, ⟨_, by simp only [PyData.shown]; rfl⟩, q⟩ (by simpa [PyData.shown] using hz)
  | list l =>
    rw [hdd] at rd q hs1 hd hz
    cases rd
    rename_i h1 h2 h3 h4
    refine repr_of_reads' (.list h1 h2 h3 h4) hs1 (fun _ hb => nsm _ hb rfl) hg (by omega) (fun _ _ e => e) (fun h' u tk hk => ?_) hz
    exact ⟨.str _, H, I.kept hk, ⟨_, rfl⟩, q⟩
  | tuple l =>
    rw [hdd] at rd q hs1 hd hz
    cases rd
    rename_i h1 h2 h3 h4
    refine repr_of_reads' (.tuple h1 h2 h3 h4) hs1 (fun _ hb => nsm _ hb rfl) hg (by omega) (fun _ _ e => e) (fun h' u tk hk => ?_) hz
    exact ⟨.str _, H, I.kept hk, ⟨_, rfl⟩, q⟩
  | dict l =>
    rw [hdd] at rd q hs1 hd hz
    cases rd
    rename_i h1 h2 h3 h4 h5
    refine repr_of_reads' (.dict h1 h2 h3 h4 h5) hs1 (fun _ hb => nsm _ hb rfl) hg (by omega) (fun _ _ e => e) (fun h' u tk hk => ?_) hz
    exact ⟨.str _, H, I.kept hk, ⟨_, rfl⟩, q⟩
theorem cd_reprX (hg : X.A.guards = some []) (hu : X.A.units + 64 < cLine) (hs : ∃ o, X.K.lookup sysModules = some o) : CD X (.builtin "repr") dReprX := by
  refine ⟨_, call_reprX hg hu hs, fun G M σ H σd μ xs ds Q R hK S r q k => ?_⟩
  obtain ⟨d, rfl, hw, q⟩ := q
  obtain ⟨v, rfl, r1⟩ := rps1 r
  exact ⟨v, d, G.bx, M, rfl, by rw [← hK]; exact r1, hw, k _ _ _ _ S (rpS _) q⟩
theorem e_reprX {d : D} {μ : Mem} {Q : D → Mem → Prop} (h1 : d.shwX) (h : Q (.str d.py.shown) μ) : dReprX [d] μ Q := ⟨d, rfl, h1, h⟩
/-! displays -/
theorem SR.newD {G : Gm} {M : Addr → Prop} {σ : List (Option V)} {H : Hp} {σd : DSt} {μ : Mem} {p : Addr} (S : SR G M σ H σd μ) (hp : H p = none) (l : List (Str × Int)) : Rp G.K G.bx M (upd H p (.dK (dkv l))) (.dct l) (.ref p) := by
  have np : ¬ M p := fun m => by obtain ⟨u, e⟩ := S.mt p m; rw [hp] at e; cases e
  exact ⟨p, rfl, np, upd_same⟩
def dDct (l : List (Str × Int)) : DTE := fun _ μ Q => Q (.dct l) μ
theorem de_dct0 {pos : Pos} : DE X (.Dict [] [] pos) (dDct []) :=
  ⟨_, pe_dnewK, fun G M σ H σd μ Q R hK S q k p hp => k _ _ _ _ (S.new hp) (S.newD hp []) q⟩
theorem de_dct1 {x : Str} {n : Int} {j1 j2 : Nat} {p1 p2 pos : Pos} : DE X (.Dict [some (.Constant (.str x) j1 p1)] [.Constant (.int n) j2 p2] pos) (dDct [(x, n)]) := by
  refine ⟨_, pe_disp (pps_cons pe_str pe_int pps_nil) rfl rfl (by simp) (by show 1 ≤ 15; decide), fun G M σ H σd μ Q R hK S q k p hp => ?_⟩
  show upd H p (.dK []) p = some (.dK []) ∧ _
  refine ⟨upd_same, [((Sum.inr x : Key), V.int n)], rfl, by show 1 ≤ 15; decide, ?_⟩
  rw [upd_upd]
  exact k _ _ _ _ (S.new hp) (S.newD hp [(x, n)]) q
theorem e_dct {l : List (Str × Int)} {σ : DSt} {μ : Mem} {Q : D → Mem → Prop} (h : Q (.dct l) μ) : dDct l σ μ Q := h
end
/-! ### what repr shows, dicts within -/
mutual
/-- fit for repr: ints not too great, texts, small dicts -/
def D.gr : D → Prop
  | .non => True
  | .bl _ => True
  | .int i => i.natAbs < 2 ^ 1919
  | .str x => PyData.strOk x = true
  | .tup l => grs l
  | .lst l => grs l
  | .dct l => (D.dct l).py.showable = true ∧ (D.dct l).py.shown.length ≤ 100 ∧ (D.dct l).py.depth ≤ 5
  | _ => False
def grs : List D → Prop
  | [] => True
  | d :: l => d.gr ∧ grs l
end
mutual
def D.wx : D → Nat
  | .tup l => wxs l + 3
  | .lst l => wxs l + 3
  | .dct _ => 100
  | d => d.wt
def wxs : List D → Nat
  | [] => 0
  | d :: l => d.wx + 2 + wxs l
end
mutual
def D.dpx : D → Nat
  | .tup l => dpxs l + 1
  | .lst l => dpxs l + 1
  | .dct _ => 5
  | _ => 0
def dpxs : List D → Nat
  | [] => 0
  | d :: l => max d.dpx (dpxs l)
end
mutual
theorem gr_facts : ∀ d : D, d.gr → d.flr = true ∧ d.py.showable = true ∧ d.py.depth ≤ d.dpx ∧ d.py.shown.length ≤ d.wx
  | .non, _ => ⟨rfl, rfl, Nat.le_refl _, by show _ ≤ D.wt _; exact shown_len .non trivial⟩
  | .bl b, _ => ⟨rfl, rfl, by simp only [D.py, PyData.depth, D.dpx]; exact Nat.le_refl _, by show _ ≤ D.wt _; exact shown_len (.bl b) trivial⟩
  | .int i, h => ⟨rfl, (gd_flat (.int i) h).2.1, by simp only [D.py, PyData.depth, D.dpx]; exact Nat.le_refl _, by show _ ≤ D.wt _; exact shown_len (.int i) h⟩
  | .str x, h => ⟨rfl, rfl, by simp only [D.py, PyData.depth, D.dpx]; exact Nat.le_refl _, by show _ ≤ D.wt _; exact shown_len (.str x) h⟩
  | .tup l, h => by
    obtain ⟨a, b, c, e⟩ := grs_facts l h
    simp only [D.flr, D.py, PyData.showable, PyData.depth, D.dpx, PyData.shown, D.wx]
    have := tupleText_len (PyData.shownAll (pys l))
    exact ⟨a, b, by omega, by omega⟩
  | .lst l, h => by
    obtain ⟨a, b, c, e⟩ := grs_facts l h
    simp only [D.flr, D.py, PyData.showable, PyData.depth, D.dpx, PyData.shown, D.wx]
    have := listText_len (PyData.shownAll (pys l))
    exact ⟨a, b, by omega, by omega⟩
  | .dct l, h => ⟨rfl, h.1, h.2.2, h.2.1⟩
  | .own _, h => h.elim
  | .frz _, h => h.elim
  | .box _, h => h.elim
  | .ty _, h => h.elim
  | .exc _ _ _ _, h => h.elim
theorem grs_facts : ∀ l : List D, grs l → flrs l = true ∧ PyData.showableAll (pys l) = true ∧ PyData.depthAll (pys l) ≤ dpxs l ∧ piled (PyData.shownAll (pys l)) ≤ wxs l
  | [], _ => ⟨rfl, rfl, Nat.le_refl _, by simp only [pys, PyData.shownAll, piled_nil, wxs]; omega⟩
  | d :: l, h => by
    obtain ⟨a1, b1, c1, e1⟩ := gr_facts d h.1
    obtain ⟨a2, b2, c2, e2⟩ := grs_facts l h.2
    simp only [flrs, pys, PyData.showableAll, PyData.depthAll, dpxs, PyData.shownAll, piled_cons, wxs, a1, a2, b1, b2]
    exact ⟨rfl, rfl, by omega, by omega⟩
end
theorem shwX_of {d : D} (g : d.gr) (w : d.wx ≤ 16777216) (p : d.dpx ≤ 50) : d.shwX := by
  obtain ⟨a, b, c, e⟩ := gr_facts d g
  exact ⟨a, b, by omega, by rw [sizeLine_eq]; omega⟩
theorem grs_of {l : List D} (h : ∀ d ∈ l, d.gr) : grs l := by
  induction l with
  | nil => exact trivial
  | cons d l ih => exact ⟨h d (List.mem_cons_self ..), ih fun x hx => h x (List.mem_cons_of_mem _ hx)⟩
theorem grs_mem : ∀ {l : List D}, grs l → ∀ d ∈ l, d.gr
  | [], _, _, h => nomatch h
  | d :: l, g, x, h => by
    rcases List.mem_cons.mp h with rfl | h
    · exact g.1
    · exact grs_mem g.2 x h
end DL

set_option maxRecDepth 100000
namespace DL
open PySem PySem.Spec L2 PyProof.Rows
/-! ### t[::-1] of a tuple -/
theorem fm_map {α β : Type} {f : α → Option β} {g : α → β} : ∀ l : List α, (∀ k ∈ l, f k = some (g k)) → l.filterMap f = l.map g
  | [], _ => rfl
  | a :: l, h => by
    rw [List.filterMap_cons, h a (List.mem_cons_self ..)]
    show g a :: l.filterMap f = g a :: l.map g
    rw [fm_map l fun k hk => h k (List.mem_cons_of_mem _ hk)]
theorem revT_pick (its : Array Value) (n : Nat) (hn : its.size = n) : ((List.range n).filterMap fun (k : Nat) => its[(((n : Int) - 1) + (k : Int) * (-1)).toNat]?).toArray = its.toList.reverse.toArray := by
  congr 1
  refine List.ext_getElem? fun i => ?_
  have key : ∀ k : Nat, k ∈ List.range n → its[(((n : Int) - 1) + (k : Int) * (-1)).toNat]? = some (its.toList.reverse.getD k .none) := fun k hk => by
    have hk := List.mem_range.mp hk
    rw [show (((n : Int) - 1) + (k : Int) * (-1)).toNat = n - 1 - k by omega]
    rw [← Array.getElem?_toList]
    have hl : its.toList.length = n := by rw [Array.length_toList]; exact hn
    rw [List.getD_eq_getElem?_getD, List.getElem?_reverse (by omega), hl, List.getElem?_eq_getElem (by omega)]
    rfl
  have e : ((List.range n).filterMap fun (k : Nat) => its[(((n : Int) - 1) + (k : Int) * (-1)).toNat]?) = (List.range n).map fun k => its.toList.reverse.getD k .none := by
    exact fm_map _ key
  rw [e]
  have hl : its.toList.reverse.length = n := by rw [List.length_reverse, Array.length_toList]; exact hn
  by_cases hi : i < n
  · rw [List.getElem?_map, List.getElem?_range hi]
    show some (its.toList.reverse.getD i Value.none) = _
    rw [List.getD_eq_getElem?_getD, List.getElem?_eq_getElem (by omega)]
    rfl
  · rw [List.getElem?_eq_none (by rw [List.length_map, List.length_range]; omega), List.getElem?_eq_none (by omega)]
section
variable {prog : Program} {w : World} {A : Around} {E : Value → Shared → Prop} {s : Shared}
theorem appliedRev {sl : Addr} {va vb vc : Value} {n : Nat} {Q : Int × Int × Nat → Shared → Prop} (hS : s.heap.IsSliceOf sl va vb vc) (pa : IsPart va none) (pb : IsPart vb none) (pc : IsPart vc (some (-1)))
    (h : Q ((n : Int) - 1, -1, n) s) : wpAny (model prog w) A (Builtin.Slice.sliceApplied (.ref sl) (pure (n : Int))) Q E s := by
  obtain ⟨ob, hob, hcb, hdb⟩ := id hS
  unfold Builtin.Slice.sliceApplied Builtin.Slice.sliceFields
  refine wpAny_bind (wpAny_bind (wpAny_field hob hdb (x := va) rfl (wpAny_bind (wpAny_field hob hdb (x := vb) rfl (wpAny_bind (wpAny_field hob hdb (x := vc) rfl (wpAny_pure ?_)))))))
  refine wpAny_bind (HT.slicePart_ pc ?_)
  show wpAny _ _ (if ((-1 : Int) == 0) = true then _ else _) _ _ s
  rw [if_neg (by decide)]
  refine wpAny_bind (HT.slicePart_ pa (wpAny_bind (HT.slicePart_ pb (wpAny_bind (wpAny_pure ?_)))))
  have e1 : Builtin.Slice.sliceAdjust none none (-1) (n : Int) = ((n : Int) - 1, -1) := rfl
  have e2 : Builtin.Slice.slicePlaces ((n : Int) - 1) (-1) (-1) = n := by
    unfold Builtin.Slice.slicePlaces
    rw [if_neg (by decide)]
    split
    · have : (-(-1 : Int)) = 1 := by decide
      rw [this, Int.ediv_one]; omega
    · omega
  show wpAny _ _ (match Builtin.Slice.sliceAdjust none none (-1) (n : Int) with | (lo, hi) => pure (lo, (-1 : Int), Builtin.Slice.slicePlaces lo hi (-1))) _ _ s
  rw [e1]
  show wpAny _ _ (pure ((n : Int) - 1, (-1 : Int), Builtin.Slice.slicePlaces ((n : Int) - 1) (-1) (-1))) _ _ s
  rw [e2]
  exact wpAny_pure h
theorem getItem_revT {t sl : Addr} {its : Array Value} {va vb vc : Value} {Q : Value → Shared → Prop} (hT : IsTup s.heap t its) (hS : s.heap.IsSliceOf sl va vb vc) (pa : IsPart va none) (pb : IsPart vb none) (pc : IsPart vc (some (-1)))
    (h : Q (.ref s.heap.objs.size) { s with heap := s.heap.push { cls := .type "tuple", data := .seq its.toList.reverse.toArray } }) (hz : its.size ≤ sizeLine) : wpAny (model prog w) A (getItem (.ref t) (.ref sl)) Q E s := by
  have hok : sizeOk (.seq its.toList.reverse.toArray) := by
    show its.toList.reverse.toArray.size ≤ sizeLine
    rw [List.size_toArray, List.length_reverse, Array.length_toList]
    exact hz
  obtain ⟨ob, hob, hcb, hdb⟩ := id hS
  have hTy : s.TypeIs (.ref sl) "slice" := ⟨ob, hob, hcb⟩
  unfold getItem
  (try with_reducible refine wpAny_holding ?_)
  (first | refine wpAny_bind (wpAny_pure ?_) | skip)
  refine wpAny_bind (wpAny_sequenceKey hT.typeIs (by decide) (wpAny_bind (wpAny_callSpecial?_slot (name := Str.ofString "__getitem__") hT.typeIs PyProof.Rows.slot_tuple_getitem
    (wpAny_call_entry PyProof.Rows.slot_tuple_getitem hT.typeIs PyProof.Rows.entry_tuple_getitem ?_ (PyProof.Rows.args_tuple_getitem _ _)))))
  show wpAny _ _ (Builtin.Tuple.tupleItemsOf (.ref t) >>= _) _ _ s
  refine wpAny_bind (PyProof.Rows.tupleItemsOf_ hT (wpAny_bind (wpAny_typeOf hTy ?_)))
  rw [if_pos (by decide)]
  refine wpAny_bind (appliedRev hS pa pb pc ?_)
  have hn : ¬ ((((its.size : Nat) : Int) - 1 == 0 && (-1 : Int) == 1 && its.size == its.size) = true) := by
    rw [show ((-1 : Int) == 1) = false by decide, Bool.and_false, Bool.false_and]
    decide
  show wpAny _ _ (if (((its.size : Nat) : Int) - 1 == 0 && (-1 : Int) == 1 && its.size == its.size) = true then _ else _) _ _ s
  rw [if_neg hn, revT_pick its its.size rfl]
  first
    | exact wpAny_bind (m := Builtin.Tuple.tupleExact _) (wpAny_newObj_type (wpAny_pure ⟨_, rfl, wpAny_pure h⟩) hok)
    | exact wpAny_bind (m := Builtin.Tuple.tupleExact _) (wpAny_newObj_type (wpAny_bind (wpAny_pure (wpAny_pure ⟨_, rfl, wpAny_pure h⟩))) hok)
    | exact wpAny_bind (wpAny_bind (m := Builtin.Tuple.tupleExact _) (wpAny_newObj_type (wpAny_pure (wpAny_pure ⟨_, rfl, wpAny_pure h⟩)) hok))
    | exact wpAny_bind (wpAny_bind (m := Builtin.Tuple.tupleExact _) (wpAny_newObj_type (wpAny_pure ⟨_, rfl, wpAny_pure h⟩) hok))
end
variable {X : Cx}
def tRevT (K : PySem.W.Frag) (te : TE) : TE := fun σ H Q => te σ H fun x H1 => ∃ a xs, x = .ref a ∧ SqT K H1 a xs ∧ ∀ p, H1 p = none → Q (.ref p) (upd H1 p (.tup xs.reverse))
theorem pe_revT {e : Expr} {te : TE} {k : Nat} {p1 p2 p3 pos : Pos} (he : PE X e te) : PE X (.Subscript e (.Slice none none (some (.UnaryOp .USub (.Constant (.int 1) k p1) p2)) p3) pos) (tRevT X.K te) := by
  refine ⟨fun pins s σ H Q I h => ?_⟩
  refine Subscript_ (thn (he.run pins s σ H _ I h) fun v s1 ⟨x, H1, I1, r1, a, xs, ex, hx, q⟩ => ?_)
  subst ex
  cases r1
  have hst : PO X (some (.UnaryOp .USub (.Constant (.int 1) k p1) p2)) (tPart (tUn (rU fun i => .int (-i)) (tC (.int 1)))) := po_some (pe_un un_neg pe_int)
  refine wpAny_Slice (thn (po_none.run pins s1 σ H1 (fun o H2 => o = none ∧ H2 = H1) I1 ⟨rfl, rfl⟩) fun vl s2 ⟨l, H2, I2, pl, el, e2⟩ => ?_)
  subst el e2
  refine thn (po_none.run pins s2 σ H2 (fun o H3 => o = none ∧ H3 = H2) I2 ⟨rfl, rfl⟩) fun vu s3 ⟨u, H3, I3, pu, eu, e3⟩ => ?_
  subst eu e3
  refine thn (hst.run pins s3 σ H3 (fun o H4 => o = some (-1) ∧ H4 = H3) I3 ⟨1, rfl, -1, rfl, rfl, rfl⟩) fun vs s4 ⟨o, H4, I4, ps, eo, e4⟩ => ?_
  subst eo e4
  have I5 : Inv X pins σ H4 { s4 with heap := s4.heap.push { cls := .type "slice", data := .fields #[vl, vu, vs] } } := I4.kept (t' := s4.toks) fun b ob q => Heap.get?_push_of_some _ q
  obtain ⟨its, r, ht, hz⟩ := I5.tuple hx
  have hlen := r.length
  show wpAny (model X.prog X.w) X.A (subscriptTail e (.Slice none none (some (.UnaryOp .USub (.Constant (.int 1) k p1) p2)) p3) (.ref a) (.ref s4.heap.objs.size)) (EP X pins σ Q) X.xe { s4 with heap := s4.heap.push { cls := .type "slice", data := .fields #[vl, vu, vs] } }
  refine tail_any (ops := [.ref a, .ref s4.heap.objs.size]) ht.typeIs PyProof.Rows.slot_tuple_getitem.lookup ?_ (by with_unfolding_all rfl)
  refine getItem_revT ht (Heap.IsSliceOf.new _ vl vu vs) pl pu ps ?_ (by rw [List.size_toArray]; omega)
  refine ⟨.ref _, _, I5.laid (t' := s4.toks) (o := .tup xs.reverse) (fun b ob q => Heap.get?_push_of_some _ q) (Nat.le_refl _) ?_, rfl, q _ (I5.hok.fresh (Nat.le_refl _))⟩
  exact ⟨by rw [List.length_reverse]; omega, _, r.reverse, IsTup.new _ _⟩
def dRevT (t : DTE) : DTE := fun σd μ Q => t σd μ fun x μ1 => ∃ ds, x = .tup ds ∧ Q (.tup ds.reverse) μ1
theorem de_revT {e : Expr} {t : DTE} {k : Nat} {p1 p2 p3 pos : Pos} (he : DE X e t) : DE X (.Subscript e (.Slice none none (some (.UnaryOp .USub (.Constant (.int 1) k p1) p2)) p3) pos) (dRevT t) := by
  obtain ⟨te, p, he⟩ := he.ex
  refine ⟨_, pe_revT p, fun G M σ H σd μ Q R hK S q k => ?_⟩
  refine he G M σ H σd μ _ _ hK S q fun v H1 d μ1 S1 r1 q1 => ?_
  obtain ⟨ds, rfl, q⟩ := q1
  obtain ⟨a, xs, rfl, h, rs⟩ := r1
  exact ⟨a, xs, rfl, by rw [← hK]; exact h.sq, fun p hp => k _ _ _ _ (S1.new hp) (S1.newT hp rs.rev) q⟩
theorem e_revT {t : DTE} {σ : DSt} {μ : Mem} {Q : D → Mem → Prop} (h : t σ μ fun x μ1 => ∃ ds, x = .tup ds ∧ Q (.tup ds.reverse) μ1) : dRevT t σ μ Q := h
theorem e_tup1 {ds : List D} {R : List D → Prop} (h : R ds) : ∃ es, D.tup ds = .tup es ∧ R es := ⟨ds, rfl, h⟩
end DL

set_option maxRecDepth 100000
namespace DL
open PySem PySem.Spec L2
/-! ### values of any kind -/
def D.isI : D → Bool
  | .int _ => true
  | .bl _ => true
  | _ => false
def D.isBl : D → Bool
  | .bl _ => true
  | _ => false
def D.isTu : D → Bool
  | .tup _ => true
  | _ => false
theorem isi_int {d : D} {μ : Mem} {Q : D → Mem → Prop} (h : d.flr = true) (q : Q (.bl d.isI) μ) : dIsi [d, .ty "int"] μ Q := by
  cases d with
  | non => exact e_isi (r := false) rfl (by decide +kernel) q
  | bl b => exact e_isi (r := true) rfl (by decide +kernel) q
  | int b => exact e_isi (r := true) rfl (by decide +kernel) q
  | str b => exact e_isi (r := false) rfl (by decide +kernel) q
  | tup b => exact e_isi (r := false) rfl (by decide +kernel) q
  | lst b => exact e_isi (r := false) rfl (by decide +kernel) q
  | dct b => exact e_isi (r := false) rfl (by decide +kernel) q
  | own l => cases h
  | frz l => cases h
  | box l => cases h
  | ty l => cases h
  | exc _ _ _ _ => cases h
theorem isi_bool {d : D} {μ : Mem} {Q : D → Mem → Prop} (h : d.flr = true) (q : Q (.bl d.isBl) μ) : dIsi [d, .ty "bool"] μ Q := by
  cases d with
  | non => exact e_isi (r := false) rfl (by decide +kernel) q
  | bl b => exact e_isi (r := true) rfl (by decide +kernel) q
  | int b => exact e_isi (r := false) rfl (by decide +kernel) q
  | str b => exact e_isi (r := false) rfl (by decide +kernel) q
  | tup b => exact e_isi (r := false) rfl (by decide +kernel) q
  | lst b => exact e_isi (r := false) rfl (by decide +kernel) q
  | dct b => exact e_isi (r := false) rfl (by decide +kernel) q
  | own l => cases h
  | frz l => cases h
  | box l => cases h
  | ty l => cases h
  | exc _ _ _ _ => cases h
theorem isi_tup {d : D} {μ : Mem} {Q : D → Mem → Prop} (h : d.flr = true) (q : Q (.bl d.isTu) μ) : dIsi [d, .ty "tuple"] μ Q := by
  cases d with
  | non => exact e_isi (r := false) rfl (by decide +kernel) q
  | bl b => exact e_isi (r := false) rfl (by decide +kernel) q
  | int b => exact e_isi (r := false) rfl (by decide +kernel) q
  | str b => exact e_isi (r := false) rfl (by decide +kernel) q
  | tup b => exact e_isi (r := true) rfl (by decide +kernel) q
  | lst b => exact e_isi (r := false) rfl (by decide +kernel) q
  | dct b => exact e_isi (r := false) rfl (by decide +kernel) q
  | own l => cases h
  | frz l => cases h
  | box l => cases h
  | ty l => cases h
  | exc _ _ _ _ => cases h
theorem flr_fz {d : D} (h : d.flr = true) : d.fz = true := by
  cases d <;> first | rfl | cases h
/-- an int that is no bool, between two others -/
def D.bet (d : D) (a b : Int) : Bool := match d with
  | .int i => decide (a ≤ i ∧ i ≤ b)
  | _ => false
def D.who (d : D) : Bool := match d with
  | .int _ => true
  | _ => false
theorem who_eq {d : D} : (if d.isI = true then !d.isBl else false) = d.who := by cases d <;> rfl
theorem strOk_of (s : String) : PyData.strOk (PySem.Str.ofString s) = true := by
  rw [PySem.Str.ofString_eq_toList]
  unfold PyData.strOk
  rw [Array.all_eq_true']
  intro c hc
  simp only [List.mem_toArray, List.mem_map] at hc
  obtain ⟨x, _, rfl⟩ := hc
  refine decide_eq_true ?_
  have h := x.valid
  have : x.toNat = x.val.toNat := rfl
  rcases h with h | ⟨_, h⟩
  · omega
  · omega
/-- fit to be shown, with bounds -/
def Gv (w k : Nat) (d : D) : Prop := d.gr ∧ d.wx ≤ w ∧ d.dpx ≤ k
theorem Gv.up {w k w' k' : Nat} {d : D} (h : Gv w k d) (h1 : w ≤ w') (h2 : k ≤ k') : Gv w' k' d := ⟨h.1, Nat.le_trans h.2.1 h1, Nat.le_trans h.2.2 h2⟩
theorem Gv.flr {w k : Nat} {d : D} (h : Gv w k d) : d.flr = true := (gr_facts d h.1).1
theorem Gv.shw {w k : Nat} {d : D} (h : Gv w k d) (hw : w ≤ 16777216) (hk : k ≤ 50) : d.shwX := shwX_of h.1 (Nat.le_trans h.2.1 hw) (Nat.le_trans h.2.2 hk)
theorem gv_int {i : Int} {k : Nat} (h : i.natAbs < 2 ^ k) (hk : k ≤ 1919 := by decide) : Gv 1921 0 (.int i) := ⟨Nat.lt_of_lt_of_le h (Nat.pow_le_pow_right (by decide) hk), Nat.le_refl _, Nat.le_refl _⟩
theorem gv_bl (b : Bool) : Gv 1921 0 (.bl b) := ⟨trivial, by show 5 ≤ 1921; decide, Nat.le_refl _⟩
theorem gv_non : Gv 1921 0 .non := ⟨trivial, by show 4 ≤ 1921; decide, Nat.le_refl _⟩
theorem wxs_le {w : Nat} : ∀ {l : List D}, (∀ d ∈ l, d.wx ≤ w) → wxs l ≤ (w + 2) * l.length
  | [], _ => by simp [wxs]
  | d :: l, h => by
    have h1 := h d (List.mem_cons_self ..)
    have h2 := wxs_le (w := w) (l := l) fun x hx => h x (List.mem_cons_of_mem _ hx)
    rw [wxs, List.length_cons, Nat.mul_add, Nat.mul_one]
    omega
theorem dpxs_le {k : Nat} : ∀ {l : List D}, (∀ d ∈ l, d.dpx ≤ k) → dpxs l ≤ k
  | [], _ => by simp [dpxs]
  | d :: l, h => by
    have h1 := h d (List.mem_cons_self ..)
    have h2 := dpxs_le (k := k) (l := l) fun x hx => h x (List.mem_cons_of_mem _ hx)
    rw [dpxs]
    omega
theorem gv_tup {w k n : Nat} {l : List D} (h : ∀ d ∈ l, Gv w k d) (hn : l.length ≤ n) : Gv ((w + 2) * n + 3) (k + 1) (.tup l) := by
  have h1 := wxs_le (w := w) fun d hd => (h d hd).2.1
  have h2 := dpxs_le (k := k) fun d hd => (h d hd).2.2
  have h3 := Nat.mul_le_mul_left (w + 2) hn
  exact ⟨grs_of fun d hd => (h d hd).1, by show wxs l + 3 ≤ _; omega, by show dpxs l + 1 ≤ _; omega⟩
theorem gv_lst {w k n : Nat} {l : List D} (h : ∀ d ∈ l, Gv w k d) (hn : l.length ≤ n) : Gv ((w + 2) * n + 3) (k + 1) (.lst l) := by
  have h1 := wxs_le (w := w) fun d hd => (h d hd).2.1
  have h2 := dpxs_le (k := k) fun d hd => (h d hd).2.2
  have h3 := Nat.mul_le_mul_left (w + 2) hn
  exact ⟨grs_of fun d hd => (h d hd).1, by show wxs l + 3 ≤ _; omega, by show dpxs l + 1 ≤ _; omega⟩
theorem cut_mem {l : List D} {a b : Option Int} {d : D} (h : d ∈ cutD l a b) : d ∈ l := by
  unfold cutD at h
  exact List.mem_of_mem_drop (List.mem_of_mem_take h)
theorem cut_len (l : List D) (a b : Option Int) : (cutD l a b).length ≤ l.length := by
  unfold cutD
  rw [List.length_take, List.length_drop]
  omega
theorem rep_mem {l : List D} {n : Nat} {d : D} (h : d ∈ (List.replicate n l).flatten) : d ∈ l := by
  obtain ⟨m, hm, hd⟩ := List.mem_flatten.mp h
  rw [List.eq_of_mem_replicate hm] at hd
  exact hd
theorem bet_int {d : D} {a b : Int} (h : d.bet a b = true) : ∃ i, d = .int i ∧ a ≤ i ∧ i ≤ b := by
  cases d with
  | int i => exact ⟨i, rfl, of_decide_eq_true h⟩
  | _ => cases h
/-! ### the same, looked at -/
mutual
def D.grB : D → Bool
  | .non => true
  | .bl _ => true
  | .int i => decide (i.natAbs < 2 ^ 1919)
  | .str x => PyData.strOk x
  | .tup l => grsB l
  | .lst l => grsB l
  | .dct l => (D.dct l).py.showable && (decide ((D.dct l).py.shown.length ≤ 100) && decide ((D.dct l).py.depth ≤ 5))
  | _ => false
def grsB : List D → Bool
  | [] => true
  | d :: l => d.grB && grsB l
end
mutual
theorem grB_gr : ∀ d : D, d.grB = true → d.gr
  | .non, _ => trivial
  | .bl _, _ => trivial
  | .int i, h => by
    have h : decide (i.natAbs < 2 ^ 1919) = true := h
    exact (show i.natAbs < 2 ^ 1919 from of_decide_eq_true h)
  | .str _, h => h
  | .tup l, h => grsB_grs l h
  | .lst l, h => grsB_grs l h
  | .dct l, h => by
    simp only [D.grB, Bool.and_eq_true, decide_eq_true_eq] at h
    exact ⟨h.1, h.2.1, h.2.2⟩
  | .own _, h => nomatch h
  | .frz _, h => nomatch h
  | .box _, h => nomatch h
  | .ty _, h => nomatch h
  | .exc _ _ _ _, h => nomatch h
theorem grsB_grs : ∀ l : List D, grsB l = true → grs l
  | [], _ => trivial
  | d :: l, h => by
    simp only [grsB, Bool.and_eq_true] at h
    exact ⟨grB_gr d h.1, grsB_grs l h.2⟩
end
def gvB (w k : Nat) (d : D) : Bool := d.grB && (decide (d.wx ≤ w) && decide (d.dpx ≤ k))
theorem gvB_gv {w k : Nat} {d : D} (h : gvB w k d = true) : Gv w k d := by
  simp only [gvB, Bool.and_eq_true, decide_eq_true_eq] at h
  exact ⟨grB_gr d h.1, h.2.1, h.2.2⟩
theorem gvB_all {w k : Nat} {l : List D} (h : l.all (gvB w k) = true) : ∀ d ∈ l, Gv w k d := fun d hd => gvB_gv (List.all_eq_true.mp h d hd)
end DL

set_option maxRecDepth 100000
namespace DL
open PySem PySem.Spec PyProof.Rows L2
/-! ### texts of great ints: as far as the interpreter's own line of digits -/
@[irreducible] def Lim : Nat := 10 ^ 4300
theorem lim_lt {n : Nat} (h : n < Lim) : n < 10 ^ 4300 := by unfold Lim at h; exact h
section
variable {P : Program} {w : World} {A : Around} {E : Value → Shared → Prop} {s : Shared} {i : Int} {t : Tok}
theorem int_repr_at {Q : Value → Shared → Prop} (nd : s.heap.NoDigits) (lt : i.natAbs < Lim) (q : Q (.str (toString i) s.toks) { s with toks := s.toks + 1 }) :
    wpAny (model P w) A (call (.builtin "int.__repr__") [.int i t]) Q E s := by
  have lt' := lim_lt lt
  refine wpAny_call_entry F.slot_int_repr (typeIs_int s i t) F.entry_int_repr ?_ (F.args_int_repr_1 _)
  unfold PySem.Builtin.«int.__repr__»
  show wpAny _ _ (do let r ← PySem.Builtin.overDigitLimit? i; _) _ _ s
  refine wpAny_bind (overDigitLimit_any nd (fun _ => ?_) (fun ge => absurd lt' (Nat.not_lt.mpr ge)))
  exact wpAny_bind (wpAny_mkStr (wpAny_pure ⟨_, rfl, q⟩) (int_text_fits10 lt'))
theorem reprObj_int_at {Q : Value → Shared → Prop} (hu : A.units < cLine) (nd : s.heap.NoDigits) (lt : i.natAbs < Lim) (q : Q (.str (toString i) s.toks) { s with toks := s.toks + 1 }) :
    wpAny (model P w) A (pyReprObj (.int i t)) Q E s :=
  wpAny_pyReprObj_slot hu (typeIs_int s i t) F.slot_int_repr.toG (int_repr_at nd lt ⟨_, _, rfl, q⟩)
end
section
variable {P : Program} {w : World} {h0 : Heap}
theorem rk_int {i : Int} {t : Tok} {bs : List Addr} {d : Nat} (nd : h0.NoDigits) (lt : i.natAbs < Lim) : ReprK P w bs h0 d (.int i t) (toString i) := by
  intro b hb A g E s Q hg hc hu hk hQ
  rw [pyReprUnder_leaf (v := .int i t) (by omega) (fun _ e => nomatch e)]
  unfold pyRepr
  exact wpAny_bind (reprObj_int_at (by omega) (nd.keeps hk) lt (wpAny_pure (hQ s.heap _ fun _ _ e => e)))
end
mutual
/-- a value whose text is within the line -/
def pbig : PyData → Prop
  | .int i => i.natAbs < Lim
  | .tuple l => pbigs l
  | .list l => pbigs l
  | .dict l => (PyData.dict l).showable = true
  | _ => True
def pbigs : List PyData → Prop
  | [] => True
  | d :: l => pbig d ∧ pbigs l
end
section
variable {P : Program} {w : World} {h0 : Heap}
mutual
theorem rk_of (nd : h0.NoDigits) : ∀ (d : PyData) (v : Value) (as : List Addr), Reads h0 v d as → pbig d → (∀ b ∈ as, b ≠ sysModules) → d.shown.length ≤ sizeLine →
    ∃ bs, ReadAtMost h0 d.depth bs ∧ ReprK P w bs h0 d.depth v d.shown
  | .int i, _, _, r, g, _, _ => by
    cases r
    exact ⟨[], nofun, by simp only [PyData.shown]; exact rk_int nd g⟩
  | .tuple l, _, _, r, g, ns, z => by
    have whole := r
    cases r with
    | tuple q1 q2 q3 q4 =>
      obtain ⟨bs, m, k⟩ := rks_of nd l _ _ q4 g ns (fun x hx => Nat.le_trans (tupleText_mem_le hx) (by simpa only [PyData.shown] using z))
      have no := not_mem_of_deeper whole (n := PyData.depthAll l) (by simp only [PyData.depth]; omega) m
      exact ⟨_, ReadAtMost.cons whole (by simp only [PyData.depth]; omega) m, by simp only [PyData.depth, PyData.shown]; exact ReprK.tuple q1 q2 q3 no k⟩
  | .list l, _, _, r, g, ns, z => by
    have whole := r
    cases r with
    | list q1 q2 q3 q4 =>
      rename_i vs _ _
      obtain ⟨bs, m, k⟩ := rks_of nd l _ _ q4 g (fun b hb => ns b (List.mem_cons_of_mem _ hb)) (fun x hx => Nat.le_trans (listText_mem_le hx) (by simpa only [PyData.shown] using z))
      have no := not_mem_of_deeper whole (n := PyData.depthAll l) (by simp only [PyData.depth]; omega) m
      refine ⟨_, ReadAtMost.cons whole (by simp only [PyData.depth]; omega) m, ?_⟩
      simp only [PyData.depth, PyData.shown]
      obtain ⟨it⟩ := vs
      match it, q3, q4, k with
      | [], q3, q4, k =>
        have q4' : ReadsAll h0 [] l _ := q4
        cases q4'
        simp only [PyData.shownAll, listText_nil]
        exact ReprK.listEmpty q1 q2 q3
      | y :: it, q3, q4, k =>
        exact ReprK.list q1 q2 q3 no (by simpa using k.length_eq) (fun i u e => k.item i u (by simpa using e))
  | .none, _, _, r, _, ns, z => ReprK.of_reads r rfl (fun h => by cases h) z
  | .bool b, _, _, r, _, ns, z => ReprK.of_reads r rfl (fun h => by cases h) z
  | .str x, _, _, r, _, ns, z => ReprK.of_reads r rfl (fun h => by cases h) z
  | .dict l, _, _, r, g, ns, z => ReprK.of_reads r g (fun _ hm => ns _ hm rfl) z
theorem rks_of (nd : h0.NoDigits) : ∀ (l : List PyData) (vs : List Value) (as : List Addr), ReadsAll h0 vs l as → pbigs l → (∀ b ∈ as, b ≠ sysModules) → (∀ x ∈ PyData.shownAll l, x.length ≤ sizeLine) →
    ∃ bs, ReadAtMost h0 (PyData.depthAll l) bs ∧ ReprAllK P w bs h0 (PyData.depthAll l) vs (PyData.shownAll l)
  | [], _, _, r, _, _, _ => by
    cases r
    exact ⟨[], nofun, .nil⟩
  | d :: l, _, _, r, g, ns, z => by
    cases r with
    | cons r1 r2 =>
      obtain ⟨b1, m1, k1⟩ := rk_of nd d _ _ r1 g.1 (fun b hb => ns b (List.mem_append_left _ hb)) (z _ (by simp only [PyData.shownAll]; exact List.mem_cons_self ..))
      obtain ⟨b2, m2, k2⟩ := rks_of nd l _ _ r2 g.2 (fun b hb => ns b (List.mem_append_right _ hb)) (fun x hx => z x (by simp only [PyData.shownAll]; exact List.mem_cons_of_mem _ hx))
      simp only [PyData.depthAll, PyData.shownAll]
      exact ⟨b1 ++ b2, (m1.mono (Nat.le_max_left ..)).append (m2.mono (Nat.le_max_right ..)),
        .cons ((k1.more fun b hb => List.mem_append_left _ hb).level_le (Nat.le_max_left ..)) (k2.more_le (fun b hb => List.mem_append_right _ hb) (Nat.le_max_right ..))⟩
end
variable {A : Around} {E : Value → Shared → Prop} {s : Shared} {Q : Value → Shared → Prop}
theorem repr_big {d : PyData} {v : Value} {as : List Addr} (nd : s.heap.NoDigits) (r : Reads s.heap v d as) (g : pbig d) (ns : ∀ b ∈ as, b ≠ sysModules) (z : d.shown.length ≤ sizeLine) (hg : A.guards = some []) (hu : A.units + (d.depth + 1) < cLine)
    (q : ∀ h' u tk, (∀ b o, s.heap.get? b = some o → h'.get? b = some o) → Q (.str d.shown u) { s with heap := h', toks := tk }) :
    wpAny (model P w) A (call (.builtin "repr") [v]) Q E s := by
  cases d with
  | none =>
    cases r
    exact PySem.P.repr_of_none (q s.heap _ _ fun _ _ e => e)
  | bool b =>
    cases r
    exact PySem.P.repr_of_bool (by simp only [PyData.shown] at q; exact q s.heap _ _ fun _ _ e => e)
  | int i =>
    cases r
    exact call_repr_slot (by omega) (typeIs_int s _ _) F.slot_int_repr.toG (int_repr_at (A := A.in1) nd g ⟨_, _, rfl, by simp only [PyData.shown] at q; exact q s.heap _ _ fun _ _ e => e⟩)
  | str x =>
    cases r
    exact PySem.P.repr_of_str (by simp only [PyData.shown] at q; exact q s.heap _ _ fun _ _ e => e) (by simpa [PyData.shown] using z)
  | dict l =>
    cases r
    rename_i h1 h2 h3 h4 h5
    exact repr_of_reads' (.dict h1 h2 h3 h4 h5) g (fun _ hb => ns _ hb rfl) hg hu (fun _ _ e => e) q z
  | tuple l =>
    have whole := r
    cases r with
    | tuple q1 q2 q3 q4 =>
      have z' : (tupleText (PyData.shownAll l)).length ≤ sizeLine := by simpa only [PyData.shown] using z
      obtain ⟨bs, m, k⟩ := rks_of (P := P) (w := w) nd l _ _ q4 g ns (fun x hx => Nat.le_trans (tupleText_mem_le hx) z')
      have no := not_mem_of_deeper whole (n := PyData.depthAll l) (by simp only [PyData.depth]; omega) m
      simp only [PyData.depth] at hu
      simp only [PyData.shown] at q
      exact call_repr_slot (by omega) ⟨_, q1, q2⟩ F.slot_tuple_repr
        (call_tuple_reprK (A := A.in1) q1 q2 q3 no k hg (fun b _ => Clear.nil b) (by show A.units + 1 + (PyData.depthAll l + 1) < cLine; omega) (fun _ _ e => e) (fun h' u tk hk => ⟨_, _, rfl, q h' u tk hk⟩) z')
  | list l =>
    have whole := r
    cases r with
    | list q1 q2 q3 q4 =>
      rename_i vs _ _
      have z' : (listText (PyData.shownAll l)).length ≤ sizeLine := by simpa only [PyData.shown] using z
      obtain ⟨bs, m, k⟩ := rks_of (P := P) (w := w) nd l _ _ q4 g (fun b hb => ns b (List.mem_cons_of_mem _ hb)) (fun x hx => Nat.le_trans (listText_mem_le hx) z')
      have no := not_mem_of_deeper whole (n := PyData.depthAll l) (by simp only [PyData.depth]; omega) m
      simp only [PyData.depth] at hu
      simp only [PyData.shown] at q
      refine call_repr_slot (by omega) ⟨_, q1, q2⟩ F.slot_list_repr.toG ?_
      obtain ⟨it⟩ := vs
      match it, q3, q4, k with
      | [], q3, q4, k =>
        have q4' : ReadsAll s.heap [] l _ := q4
        cases q4'
        simp only [PyData.shownAll, listText_nil] at q
        exact call_list_repr_empty ⟨_, q1, q2⟩ q1 q3 ⟨_, _, rfl, q s.heap _ _ fun _ _ e => e⟩
      | y :: it, q3, q4, k =>
        exact call_list_reprK (A := A.in1) q1 q2 q3 no (by simpa using k.length_eq) (fun i u e => k.item i u (by simpa using e)) hg (fun b _ => Clear.nil b) (by show A.units + 1 + (PyData.depthAll l + 1) < cLine; omega) (fun _ _ e => e) (fun h' u tk hk => ⟨_, _, rfl, q h' u tk hk⟩) z'
end
/-- the start-up names hold no other line -/
theorem nd_of {K : PySem.W.Frag} {h : Heap} (kin : K.In h) (nl : h.NoLimit) (e : PySem.W.nsIn K cStatics "sys.int_max_str_digits" = some none) : h.NoDigits := by
  obtain ⟨mc, ⟨o, es, ep, g1, g2, g3, g4⟩, _⟩ := nl
  refine ⟨mc, ⟨o, es, ep, g1, g2, g3, g4⟩, ?_⟩
  rw [← g4]
  unfold PySem.W.nsIn at e
  cases q : K.lookup cStatics with
  | none => rw [q] at e; cases e
  | some ob =>
    have same := kin _ _ q
    rw [g1] at same
    cases same
    rw [q] at e
    obtain ⟨c1, c2, dt, c4⟩ := o
    cases g2
    simp only at e
    split at e
    · cases e
    · rename_i hn
      unfold nsFind findBy
      rw [← Array.find?_toList, hn]
      rfl
section
variable {X : Cx}
def D.shwB (d : D) : Prop := d.flr = true ∧ pbig d.py ∧ d.py.depth ≤ 50 ∧ d.py.shown.length ≤ sizeLine
def dReprB : DRC := fun ds μ Q => ∃ d, ds = [d] ∧ d.shwB ∧ Q (.str d.py.shown) μ
def dStrB : DRC := fun ds μ Q => ∃ i, ds = [.int i] ∧ i.natAbs < Lim ∧ Q (.str (toString i)) μ
theorem Inv.nd {pins : List (Addr × Obj)} {σ : List (Option V)} {H : Hp} {s : Shared} (I : Inv X pins σ H s) (e : PySem.W.nsIn X.K cStatics "sys.int_max_str_digits" = some none) : s.heap.NoDigits := nd_of I.kIn I.nolimit e
theorem call_reprB (hg : X.A.guards = some []) (hu : X.A.units + 64 < cLine) (hs : ∃ o, X.K.lookup sysModules = some o) (hd : PySem.W.nsIn X.K cStatics "sys.int_max_str_digits" = some none) :
    CallR X (.builtin "repr") (fun xs H Q => ∃ (v : V) (d : D) (bx : List Addr) (M : Addr → Prop), xs = [v] ∧ Rp X.K bx M H d v ∧ d.shwB ∧ Q (.str d.py.shown) H) := by
  intro pins s σ H xs us Q I r h
  obtain ⟨v, d, bx, M, rfl, rp, ⟨hf, hs1, hp, hz⟩, q⟩ := h
  obtain ⟨u, rfl, rv⟩ := Vals.one r
  obtain ⟨as, rd, nsm⟩ := Rp.reads I (inv_sysm I hs) d v u rp rv hf
  exact repr_big (Inv.nd I hd) rd hs1 nsm hz hg (by omega) (fun h' u tk hk => ⟨.str _, H, I.kept hk, ⟨_, rfl⟩, q⟩)
theorem cd_reprB (hg : X.A.guards = some []) (hu : X.A.units + 64 < cLine) (hs : ∃ o, X.K.lookup sysModules = some o) (hd : PySem.W.nsIn X.K cStatics "sys.int_max_str_digits" = some none) : CD X (.builtin "repr") dReprB := by
  refine ⟨_, call_reprB hg hu hs hd, fun G M σ H σd μ xs ds Q R hK S r q k => ?_⟩
  obtain ⟨d, rfl, hw, q⟩ := q
  obtain ⟨v, rfl, r1⟩ := rps1 r
  exact ⟨v, d, G.bx, M, rfl, by rw [← hK]; exact r1, hw, k _ _ _ _ S (rpS _) q⟩
theorem call_strB (hh : X.A.handled = none) (hd : PySem.W.nsIn X.K cStatics "sys.int_max_str_digits" = some none) : CallR X (.type "str") (fun xs H Q => ∃ i, xs = [.int i] ∧ i.natAbs < Lim ∧ Q (.str (toString i)) H) := by
  intro pins s σ H xs us Q I r h
  obtain ⟨i, rfl, hz, q⟩ := h
  obtain ⟨u, rfl, t, rfl⟩ := vals1 r
  exact str_of_int_or hh (Inv.nd I hd) (fun _ => ⟨.str _, H, I.tok _, ⟨_, rfl⟩, q⟩) (fun ge => absurd (lim_lt hz) (Nat.not_lt.mpr ge))
theorem cd_strB (hh : X.A.handled = none) (hd : PySem.W.nsIn X.K cStatics "sys.int_max_str_digits" = some none) : CD X (.type "str") dStrB := by
  refine ⟨_, call_strB hh hd, fun G M σ H σd μ xs ds Q R hK S r q k => ?_⟩
  obtain ⟨i, rfl, hz, q⟩ := q
  obtain ⟨v, rfl, r1⟩ := rps1 r
  exact ⟨i, by rw [show v = .int i from r1], hz, k _ _ _ _ S (rpS _) q⟩
theorem e_reprB {d : D} {μ : Mem} {Q : D → Mem → Prop} (h1 : d.shwB) (h : Q (.str d.py.shown) μ) : dReprB [d] μ Q := ⟨d, rfl, h1, h⟩
theorem e_strB {i : Int} {μ : Mem} {Q : D → Mem → Prop} (hz : i.natAbs < Lim) (h : Q (.str (toString i)) μ) : dStrB [.int i] μ Q := ⟨i, rfl, hz, h⟩
end
/-! fit for the great repr -/
mutual
def D.gB : D → Prop
  | .non => True
  | .bl _ => True
  | .int i => i.natAbs < Lim
  | .str x => PyData.strOk x = true
  | .tup l => gBs l
  | .lst l => gBs l
  | .dct l => (D.dct l).py.showable = true ∧ (D.dct l).py.shown.length ≤ 100 ∧ (D.dct l).py.depth ≤ 5
  | _ => False
def gBs : List D → Prop
  | [] => True
  | d :: l => d.gB ∧ gBs l
end
mutual
def D.wB : D → Nat
  | .tup l => wBs l + 3
  | .lst l => wBs l + 3
  | .dct _ => 100
  | .int _ => 4301
  | d => d.wt
def wBs : List D → Nat
  | [] => 0
  | d :: l => d.wB + 2 + wBs l
end
theorem big_len {i : Int} (h : i.natAbs < Lim) : (Str.ofString (toString i)).length ≤ 4301 := by
  have e := int_text_length_le10 (k := 4300) (by decide) (lim_lt h)
  rw [PySem.ofString_length]; exact e
mutual
theorem gB_facts : ∀ d : D, d.gB → d.flr = true ∧ pbig d.py ∧ d.py.depth ≤ d.dpx ∧ d.py.shown.length ≤ d.wB
  | .non, _ => ⟨rfl, trivial, Nat.le_refl _, by show _ ≤ D.wt _; exact shown_len .non trivial⟩
  | .bl b, _ => ⟨rfl, trivial, by simp only [D.py, PyData.depth, D.dpx]; exact Nat.le_refl _, by show _ ≤ D.wt _; exact shown_len (.bl b) trivial⟩
  | .int i, h => ⟨rfl, h, by simp only [D.py, PyData.depth, D.dpx]; exact Nat.le_refl _, by simp only [D.py, PyData.shown, D.wB]; exact big_len h⟩
  | .str x, h => ⟨rfl, trivial, by simp only [D.py, PyData.depth, D.dpx]; exact Nat.le_refl _, by show _ ≤ D.wt _; exact shown_len (.str x) h⟩
  | .tup l, h => by
    obtain ⟨a, b, c, e⟩ := gBs_facts l h
    simp only [D.flr, D.py, pbig, PyData.depth, D.dpx, PyData.shown, D.wB]
    have := tupleText_len (PyData.shownAll (pys l))
    exact ⟨a, b, by omega, by omega⟩
  | .lst l, h => by
    obtain ⟨a, b, c, e⟩ := gBs_facts l h
    simp only [D.flr, D.py, pbig, PyData.depth, D.dpx, PyData.shown, D.wB]
    have := listText_len (PyData.shownAll (pys l))
    exact ⟨a, b, by omega, by omega⟩
  | .dct l, h => ⟨rfl, h.1, h.2.2, h.2.1⟩
  | .own _, h => h.elim
  | .frz _, h => h.elim
  | .box _, h => h.elim
  | .ty _, h => h.elim
  | .exc _ _ _ _, h => h.elim
theorem gBs_facts : ∀ l : List D, gBs l → flrs l = true ∧ pbigs (pys l) ∧ PyData.depthAll (pys l) ≤ dpxs l ∧ piled (PyData.shownAll (pys l)) ≤ wBs l
  | [], _ => ⟨rfl, trivial, Nat.le_refl _, by simp only [pys, PyData.shownAll, piled_nil, wBs]; omega⟩
  | d :: l, h => by
    obtain ⟨a1, b1, c1, e1⟩ := gB_facts d h.1
    obtain ⟨a2, b2, c2, e2⟩ := gBs_facts l h.2
    simp only [flrs, pys, pbigs, PyData.depthAll, dpxs, PyData.shownAll, piled_cons, wBs, a1, a2]
    exact ⟨rfl, ⟨b1, b2⟩, by omega, by omega⟩
end
theorem shwB_of {d : D} (g : d.gB) (w : d.wB ≤ 16777216) (p : d.dpx ≤ 50) : d.shwB := by
  obtain ⟨a, b, c, e⟩ := gB_facts d g
  exact ⟨a, b, by omega, by rw [sizeLine_eq]; omega⟩
theorem gBs_of {l : List D} (h : ∀ d ∈ l, d.gB) : gBs l := by
  induction l with
  | nil => exact trivial
  | cons d l ih => exact ⟨h d (List.mem_cons_self ..), ih fun x hx => h x (List.mem_cons_of_mem _ hx)⟩
/-- within a power of two -/
theorem lim_pow {n k : Nat} (h : n < 2 ^ k) (hk : k ≤ 14000) : n < Lim := by
  unfold Lim
  exact Nat.lt_of_lt_of_le (Nat.lt_of_lt_of_le h (Nat.pow_le_pow_right (by decide) hk)) (by decide +kernel)
end DL

set_option maxRecDepth 100000
namespace DL
open PySem PySem.Spec L2
/-! ### values of any kind, with great ints -/
mutual
theorem gr_gB : ∀ d : D, d.gr → d.gB
  | .non, _ => trivial
  | .bl _, _ => trivial
  | .int i, h => lim_pow h (by decide)
  | .str _, h => h
  | .tup l, h => grs_gBs l h
  | .lst l, h => grs_gBs l h
  | .dct _, h => h
  | .own _, h => h.elim
  | .frz _, h => h.elim
  | .box _, h => h.elim
  | .ty _, h => h.elim
  | .exc _ _ _ _, h => h.elim
theorem grs_gBs : ∀ l : List D, grs l → gBs l
  | [], _ => trivial
  | d :: l, h => ⟨gr_gB d h.1, grs_gBs l h.2⟩
end
mutual
theorem wB_wx : ∀ d : D, d.wB ≤ 3 * d.wx
  | .non => by show D.wt _ ≤ 3 * D.wt _; omega
  | .bl _ => by show D.wt _ ≤ 3 * D.wt _; omega
  | .int i => by show 4301 ≤ 3 * 1921; decide
  | .str _ => by show D.wt _ ≤ 3 * D.wt _; omega
  | .tup l => by have := wBs_wxs l; show wBs l + 3 ≤ 3 * (wxs l + 3); omega
  | .lst l => by have := wBs_wxs l; show wBs l + 3 ≤ 3 * (wxs l + 3); omega
  | .dct _ => by show 100 ≤ 3 * 100; decide
  | .own _ => by show D.wt _ ≤ 3 * D.wt _; omega
  | .frz _ => by show D.wt _ ≤ 3 * D.wt _; omega
  | .box _ => by show D.wt _ ≤ 3 * D.wt _; omega
  | .ty _ => by show D.wt _ ≤ 3 * D.wt _; omega
  | .exc _ _ _ _ => by show D.wt _ ≤ 3 * D.wt _; omega
theorem wBs_wxs : ∀ l : List D, wBs l ≤ 3 * wxs l
  | [] => Nat.zero_le _
  | d :: l => by have := wB_wx d; have := wBs_wxs l; show d.wB + 2 + wBs l ≤ 3 * (d.wx + 2 + wxs l); omega
end
/-- a value that repr shows: its weight and its depth -/
def Gw (w k : Nat) (d : D) : Prop := d.gB ∧ d.wB ≤ w ∧ d.dpx ≤ k
theorem Gw.up {w k w' k' : Nat} {d : D} (h : Gw w k d) (h1 : w ≤ w') (h2 : k ≤ k') : Gw w' k' d := ⟨h.1, Nat.le_trans h.2.1 h1, Nat.le_trans h.2.2 h2⟩
theorem Gw.flr {w k : Nat} {d : D} (h : Gw w k d) : d.flr = true := (gB_facts d h.1).1
theorem Gw.shw {w k : Nat} {d : D} (h : Gw w k d) (hw : w ≤ 16777216) (hk : k ≤ 50) : d.shwB := shwB_of h.1 (Nat.le_trans h.2.1 hw) (Nat.le_trans h.2.2 hk)
theorem Gv.w {w k : Nat} {d : D} (h : Gv w k d) : Gw (3 * w) k d := ⟨gr_gB d h.1, Nat.le_trans (wB_wx d) (Nat.mul_le_mul_left 3 h.2.1), h.2.2⟩
theorem gw_int {i : Int} (h : i.natAbs < Lim) : Gw 4301 0 (.int i) := ⟨h, Nat.le_refl _, Nat.le_refl _⟩
theorem gw_bl (b : Bool) : Gw 4301 0 (.bl b) := ⟨trivial, by show 5 ≤ 4301; decide, Nat.le_refl _⟩
theorem gw_non : Gw 4301 0 .non := ⟨trivial, by show 4 ≤ 4301; decide, Nat.le_refl _⟩
theorem wBs_le {w : Nat} : ∀ {l : List D}, (∀ d ∈ l, d.wB ≤ w) → wBs l ≤ (w + 2) * l.length
  | [], _ => Nat.zero_le _
  | d :: l, h => by
    have h1 := h d (List.mem_cons_self ..)
    have h2 := wBs_le (w := w) (l := l) fun x hx => h x (List.mem_cons_of_mem _ hx)
    rw [List.length_cons, Nat.mul_succ]
    show d.wB + 2 + wBs l ≤ _
    omega
theorem gw_tup {w k n : Nat} {l : List D} (h : ∀ d ∈ l, Gw w k d) (hn : l.length ≤ n) : Gw ((w + 2) * n + 3) (k + 1) (.tup l) := by
  refine ⟨gBs_of fun d hd => (h d hd).1, ?_, ?_⟩
  · have := wBs_le (w := w) fun d hd => (h d hd).2.1
    have := Nat.mul_le_mul_left (w + 2) hn
    show wBs l + 3 ≤ _
    omega
  · have := dpxs_le (k := k) fun d hd => (h d hd).2.2
    show dpxs l + 1 ≤ _
    omega
theorem gw_lst {w k n : Nat} {l : List D} (h : ∀ d ∈ l, Gw w k d) (hn : l.length ≤ n) : Gw ((w + 2) * n + 3) (k + 1) (.lst l) := by
  refine ⟨gBs_of fun d hd => (h d hd).1, ?_, ?_⟩
  · have := wBs_le (w := w) fun d hd => (h d hd).2.1
    have := Nat.mul_le_mul_left (w + 2) hn
    show wBs l + 3 ≤ _
    omega
  · have := dpxs_le (k := k) fun d hd => (h d hd).2.2
    show dpxs l + 1 ≤ _
    omega
end DL

set_option maxRecDepth 100000
namespace DL
open PySem PySem.Spec L2
section
variable {X : Cx} {pos : Pos}
/-- x[i] = e, x a list of one's own -/
def dgOwn (n : Nat) (ti : DTE) : DTG := fun d σd μ Q => ∃ l : List D, σd[n]? = some (some (.own l)) ∧ ti σd μ fun di μ1 => ∃ i j, di = .int i ∧ ixN l.length i = some j ∧ Q (σd.set n (some (.own (l.set j d)))) μ1
theorem dg_own {o i : Expr} {n : Nat} {ti : DTE} (ho : PE X o (tVar n)) (hi : DE X i ti) (hp : ∀ (te te' : TE), PE X o te → PE X i te' → PG X (.Subscript o i pos) (gSub te te' rSetL) := by exact fun _ _ a b => pg_sub a b set_list) : DG X (.Subscript o i pos) (dgOwn n ti) := by
  obtain ⟨te', p', h'⟩ := hi.ex
  refine ⟨_, hp _ _ ho p', fun G M σ H σd μ d v Q R hK S r q k => ?_⟩
  obtain ⟨l, e1, q⟩ := q
  obtain ⟨v1, ev, pp, xs, rfl, mp, h0, hh, rs⟩ := S.slot _ _ e1
  refine ⟨_, ev, ?_⟩
  refine h' (G.pin v d) M σ H σd μ _ _ hK (S.pin r) q fun v2 H2 d2 μ2 S2 r2 q2 => ?_
  obtain ⟨S2b, r'⟩ := S2.unpin
  obtain ⟨i, j, rfl, e2, q⟩ := q2
  obtain ⟨v', ev', p'', xs', e3, mp', h0', hh', rs'⟩ := S2b.slot _ _ e1
  rw [ev] at ev'; cases ev'; cases e3
  exact ⟨pp, xs', i, j, rfl, r2, hh', by rw [rs'.len]; exact e2, k _ _ _ _ (S2b.ownUpd _ e1 ev (rs'.set j r')) q⟩
theorem e_gOwn {n : Nat} {l : List D} {ti : DTE} {d : D} {σ : DSt} {μ : Mem} {Q : DSt → Mem → Prop} (h1 : σ[n]? = some (some (.own l))) (h : ti σ μ fun di μ1 => ∃ i j, di = .int i ∧ ixN l.length i = some j ∧ Q (σ.set n (some (.own (l.set j d)))) μ1) : dgOwn n ti d σ μ Q := ⟨l, h1, h⟩
end
end DL

set_option maxRecDepth 100000
namespace DL
open PySem PySem.Spec L2
/-! ### a list that a call has made, as one's own -/
/-- a value that holds no other -/
def D.sc : D → Bool
  | .non => true
  | .bl _ => true
  | .int _ => true
  | .str _ => true
  | .box _ => true
  | .ty _ => true
  | _ => false
def scs (l : List D) : Prop := ∀ d ∈ l, d.sc = true
def scM (μ : Mem) : Prop := ∀ l ∈ μ, scs l
theorem sc_rp {K : PySem.W.Frag} {bx : List Addr} {M M' : Addr → Prop} {H H' : Hp} {d : D} {v : V} (h : d.sc = true) (r : Rp K bx M H d v) : Rp K bx M' H' d v := by
  cases d <;> first | exact r | cases h
theorem sc_rps {K : PySem.W.Frag} {bx : List Addr} {M M' : Addr → Prop} {H H' : Hp} : ∀ {l : List D} {vs : List V}, scs l → Rps K bx M H l vs → Rps K bx M' H' l vs
  | [], _, _, r => r
  | d :: l, _, h, r => by
    obtain ⟨v, vr, rfl, r1, r2⟩ := r
    exact ⟨v, vr, rfl, sc_rp (h d (List.mem_cons_self ..)) r1, sc_rps (fun x hx => h x (List.mem_cons_of_mem _ hx)) r2⟩
theorem SR.grab {G : Gm} {M M1 : Addr → Prop} {σ : St} {H H' : Hp} {σd : DSt} {μ μ' : Mem} {p : Addr} {xs : List V} {l : List D} (S : SR G M σ H σd μ) (i : Nat) (A : Aft G.K G.bx M1 H H' μ') (hm : scM μ') (fp : H p = none) (hp : H' p = some (.lst xs)) (rs : Rps G.K G.bx M1 H' l xs) (hl : scs l) :
    SR G (fun a => M a ∨ a = p) (σ.set i (some (.ref p))) H' (σd.set i (some (.own l))) μ' := by
  have mb : ∀ a, ¬ M a → a ∉ G.bx := fun a m z => m (S.m0 a (S.bm a z))
  have k : Kp M (fun a => M a ∨ a = p) H H' := fun a o m e => ⟨A.keep a o (mb a m) e, fun z => z.elim m (fun z => by subst z; rw [fp] at e; cases e)⟩
  have h0p : G.H0 p = none := by
    cases q : G.H0 p with
    | none => rfl
    | some o =>
      by_cases hb : p ∈ G.bx
      · obtain ⟨o', q'⟩ := S.mt p (S.m0 p (S.bm p hb))
        rw [fp] at q'; cases q'
      · have := S.keep p o hb q
        rw [fp] at this; cases this
  have ownkeep : ∀ {q : Addr} {ys : List V}, M q → G.H0 q = none → H q = some (.lst ys) → H' q = some (.lst ys) := fun {q ys} mq h0 hq => by
    refine A.keep q _ (fun z => ?_) hq
    obtain ⟨o, w⟩ := S.m0t q (S.bm q z)
    rw [h0] at w; cases w
  refine ⟨by rw [List.length_set, List.length_set]; exact S.len, fun j d e => ?_, fun j j' q l1 l2 e1 e2 e3 e4 => ?_, A.blen, fun j a l' e1 e2 => ?_, fun a o h1 h2 => A.keep a o h1 (S.keep a o h1 h2), fun a m => .inl (S.m0 a m), fun q hq => Rp.stay k _ _ (S.fr q hq), fun a m => ?_, S.nd, S.bm, S.m0t⟩
  · have hi : j < σd.length := by
      have := (List.getElem?_eq_some_iff.mp e).1
      rwa [List.length_set] at this
    by_cases hj : j = i
    · subst hj
      rw [List.getElem?_set_self hi] at e
      cases e
      exact ⟨.ref p, by rw [List.getElem?_set_self (by rw [S.len]; exact hi)], p, xs, rfl, .inr rfl, h0p, hp, sc_rps hl rs⟩
    · rw [List.getElem?_set_ne (Ne.symm hj)] at e
      obtain ⟨v, e1, r⟩ := S.slot j d e
      exact ⟨v, by rw [List.getElem?_set_ne (Ne.symm hj)]; exact e1, r.stay k fun q ys mq h0 hq => ⟨.inl mq, ownkeep mq h0 hq⟩⟩
  · have at' : ∀ {j : Nat} {lj : List D}, j ≠ i → (σd.set i (some (.own l)))[j]? = some (some (.own lj)) → (σ.set i (some (.ref p)))[j]? = some (some (.ref q)) → σd[j]? = some (some (.own lj)) ∧ σ[j]? = some (some (.ref q)) ∧ q ≠ p := fun {j lj} hj f1 f2 => by
      rw [List.getElem?_set_ne (Ne.symm hj)] at f1 f2
      obtain ⟨v, g1, pj, xj, rfl, mj, h0j, hj', rj⟩ := S.slot j _ f1
      rw [f2] at g1; cases g1
      exact ⟨f1, f2, fun z => by subst z; rw [fp] at hj'; cases hj'⟩
    have self : ∀ {j : Nat}, j = i → (σ.set i (some (.ref p)))[j]? = some (some (.ref q)) → q = p := fun {j} hj f => by
      subst hj
      have hi : j < σ.length := by
        have := (List.getElem?_eq_some_iff.mp f).1
        rwa [List.length_set] at this
      rw [List.getElem?_set_self hi] at f
      cases f; rfl
    by_cases hj : j = i
    · by_cases hj' : j' = i
      · rw [hj, hj']
      · exact absurd (self hj e3) (at' hj' e2 e4).2.2
    · by_cases hj' : j' = i
      · exact absurd (self hj' e4) (at' hj e1 e3).2.2
      · obtain ⟨a1, b1, _⟩ := at' hj e1 e3
        obtain ⟨a2, b2, _⟩ := at' hj' e2 e4
        exact S.dist j j' q l1 l2 a1 a2 b1 b2
  · obtain ⟨ys, f1, f2⟩ := A.box j a l' e1 e2
    exact ⟨ys, f1, sc_rps (hm l' (List.mem_of_getElem? e2)) f2⟩
  · rcases m with m | rfl
    · obtain ⟨o, q⟩ := S.mt a m
      by_cases hb : a ∈ G.bx
      · obtain ⟨j, hj⟩ := List.getElem?_of_mem hb
        have hl' : j < μ'.length := by rw [A.blen]; exact (List.getElem?_eq_some_iff.mp hj).1
        obtain ⟨ys, f1, _⟩ := A.box j a _ hj (List.getElem?_eq_getElem hl')
        exact ⟨_, f1⟩
      · exact ⟨o, A.keep a o hb q⟩
    · exact ⟨_, hp⟩
section
variable {X : Cx}
/-- x = f(..), a list that f has made, as one's own -/
def dOwnCall (i : Nat) (F : DSp) (ta : DTA) : DTS := fun De σd μ => ta σd μ fun ds μ1 => scs ds ∧ scM μ1 ∧ F ds μ1 fun d μ2 => ∃ l, d = .lst l ∧ scs l ∧ scM μ2 ∧ De.nx (σd.set i (some (.own l))) μ2
theorem ds_ownCall {i k : Nat} {ps : List Str} {F : DSp} {x y : Str} {p px pos pos' : Pos} {e : Expr} {es : List Expr} {tr : DTA} (Hs : Has X.prog X.w X.K X.mg X.base k x ps F) (hg : X.A.guards = some []) (hr : Room k X.A) (gl : Gl X x) (ha : DA X (e :: es) tr)
    (hp : ∀ sp : TE, PE X (.Call (.Name x p) (e :: es) [] pos) sp → PS X (.Assign [.Name y px] (.Call (.Name x p) (e :: es) [] pos) pos') (tAsg sp (gName i)))
    (hdb : (x == ("__debug__" : Str)) = false := by decide) (he : starEach (e :: es) X.env = (false, eval e X.env) :: starEach es X.env := by rfl) (hpl : (backTo pos (starEach es X.env)).any (·.1) = false := by rfl) :
    DS X (.Assign [.Name y px] (.Call (.Name x p) (e :: es) [] pos) pos') (dOwnCall i F tr) := by
  obtain ⟨f, fd, hm, hk, _, hb, Fn⟩ := Hs
  obtain ⟨te, pr, h⟩ := ha.ex
  refine ⟨_, hp _ (pe_callG Fn hg hr gl hm hk (.all hb) pr hdb he hpl), fun G M σ H σd μ De E hK S q L => ?_⟩
  refine h G M σ H σd μ _ _ hK S q fun vs H1 ds μ1 S1 r1 q1 => ?_
  obtain ⟨hs, hm1, q⟩ := q1
  have S1' := S1
  rw [hK] at r1
  refine ⟨G.bx, fun a => ∃ o, H1 a = some o, ds, μ1, fun d μ2 => ∃ l, d = .lst l ∧ scs l ∧ scM μ2 ∧ De.nx (σd.set i (some (.own l))) μ2, ?_, sc_rps hs r1, q, fun v' H' d μ' A r q => ?_⟩
  · refine ⟨rfl, fun j d e => by simp at e, fun j j' q l1 l2 e => by simp at e, S1.blen, fun j a l' e1 e2 => ?_, fun a o _ e => e, fun a m => m, fun _ z => (nomatch z), fun a m => m, S1.nd, fun a z => S1.mt a (S1.m0 a (S1.bm a z)), fun a m => m⟩
    obtain ⟨ys, f1, f2⟩ := S1.box j a l' e1 e2
    rw [hK] at f2
    exact ⟨ys, f1, sc_rps (hm1 l' (List.mem_of_getElem? e2)) f2⟩
  · obtain ⟨l, rfl, hl, hm2, q⟩ := q
    obtain ⟨p', xs, rfl, ⟨np, hp'⟩, rs⟩ := r
    have fp : H1 p' = none := by
      cases z : H1 p' with
      | none => rfl
      | some o => exact (np ⟨o, z⟩).elim
    rw [← hK] at A rs
    exact L.nx _ _ _ _ _ (S1.grab i A hm2 fp hp' rs hl) q
theorem e_ownCall {i : Nat} {F : DSp} {ta : DTA} {De : DEnds} {σ : DSt} {μ : Mem} (h : ta σ μ fun ds μ1 => scs ds ∧ scM μ1 ∧ F ds μ1 fun d μ2 => ∃ l, d = .lst l ∧ scs l ∧ scM μ2 ∧ De.nx (σ.set i (some (.own l))) μ2) : dOwnCall i F ta De σ μ := h
end
end DL

set_option maxRecDepth 100000
namespace DL
open PySem PySem.Spec L2
section
variable {X : Cx} {pos : Pos} {e : Expr} {es : List Expr} {x : Str} {p : Pos}
theorem e_eqSS {s : Str} {μ : Mem} {Q : D → Mem → Prop} (h : Q (.bl true) μ) : dEq (.str s) (.str s) μ Q := e_eqS (by rw [decide_eq_true rfl]; exact h)
/-- a tuple, many times -/
def dRepT : DR2 := fun x y μ Q => ∃ l k, x = .tup l ∧ y = .int k ∧ l ≠ [] ∧ 2 ≤ k ∧ k ≤ 1000 ∧ l.length ≤ 1000 ∧ Q (.tup (List.replicate k.toNat l).flatten) μ
theorem od_repT : OD X (binaryOp .Mult) dRepT := by
  refine ⟨_, op_repT, fun G M σ H σd μ x y dx dy Q R hK S rx ry q k => ?_⟩
  obtain ⟨l, n, rfl, rfl, ne, z1, z2, z3, q⟩ := q
  obtain ⟨a, xs, rfl, h1, r1⟩ := rx
  exact ⟨a, n, xs, rfl, ry, by rw [← hK]; exact h1.sq, fun e => ne (List.length_eq_zero_iff.mp (by rw [← r1.len, e]; rfl)), z1, z2, by rw [r1.len]; exact z3, fun p hp => k _ _ _ _ (S.new hp) (S.newT hp (r1.rep _)) q⟩
theorem e_repT {l : List D} {k : Int} {μ : Mem} {Q : D → Mem → Prop} (c : l ≠ [] ∧ 2 ≤ k ∧ k ≤ 1000 ∧ l.length ≤ 1000) (h : Q (.tup (List.replicate k.toNat l).flatten) μ) : dRepT (.tup l) (.int k) μ Q := ⟨l, k, rfl, rfl, c.1, c.2.1, c.2.2.1, c.2.2.2, h⟩
/-- tuple(x), x a list of one's own -/
def dTupOwn (n : Nat) : DTE := fun σd μ Q => ∃ l : List D, σd[n]? = some (some (.own l)) ∧ Q (.tup l) μ
theorem de_tupOwn {n : Nat} (hg : Gl X x) (hm : X.mg x = none) (hv : bootBuiltins x = some (.type "tuple")) (ho : PE X e (tVar n)) (hn : x ≠ "__name__" := by decide) (hdb : (x == ("__debug__" : Str)) = false := by decide)
    (he : starEach (e :: []) X.env = (false, eval e X.env) :: starEach [] X.env := by rfl) (hpl : (backTo pos (starEach [] X.env)).any (·.1) = false := by rfl) : DE X (.Call (.Name x p) (e :: []) [] pos) (dTupOwn n) := by
  refine ⟨_, pe_callTy call_tuple_of hg hm hv (pa_cons (hs := he) ho pa_nil) hn hdb he hpl, fun G M σ H σd μ Q R hK S q k => ?_⟩
  obtain ⟨l, e1, q⟩ := q
  obtain ⟨v1, ev, pp, xs, rfl, mp, h0, hh, rs⟩ := S.slot _ _ e1
  exact ⟨_, ev, pp, xs, rfl, .inl ⟨SqL.of hh, fun p hp => k _ _ _ _ (S.new hp) (S.newT hp rs) q⟩⟩
theorem e_tupOwn {n : Nat} {l : List D} {σ : DSt} {μ : Mem} {Q : D → Mem → Prop} (h1 : σ[n]? = some (some (.own l))) (h : Q (.tup l) μ) : dTupOwn n σ μ Q := ⟨l, h1, h⟩
end
end DL

set_option maxRecDepth 100000
namespace DL
open PySem PySem.Spec L2
section
variable {X : Cx} {o e : Expr} {ta tb : DTE}
/-- x.rstrip(signs) -/
def rRstrip : V → List V → Hp → VK → Prop := fun x xs H Q => ∃ a b, x = .str a ∧ xs = [.str b] ∧ a.length ≤ sizeLine ∧ Q (.str (Txt.rstripChars a b)) H
def dRstrip (ta tb : DTE) : DTE := fun σd μ Q => ta σd μ fun x μ1 => ∃ a, x = .str a ∧ a.length ≤ sizeLine ∧ tb σd μ1 fun y μ2 => ∃ b, y = .str b ∧ Q (.str (Txt.rstripChars a b)) μ2
theorem de_rstrip {apos cpos : Pos} (ho : DE X o ta) (hb : DE X e tb) (hp : ∀ te te', PE X o te → PE X e te' → PE X (.Call (.Attribute o "rstrip" apos) [e] [] cpos) (tBM X.K "str" rRstrip te (tCons te' tNil)) := by exact fun _ _ a b => pe_bm PySem.F.plainAttrs_str PySem.F.slot_str_rstrip PySem.F.type_str_rstrip mt_rstripChars a (pa_cons b pa_nil)) :
    DE X (.Call (.Attribute o "rstrip" apos) [e] [] cpos) (dRstrip ta tb) := by
  obtain ⟨te, p, h⟩ := ho.ex
  obtain ⟨te', p', h'⟩ := hb.ex
  refine ⟨_, hp _ _ p p', fun G M σ H σd μ Q R hK S q k => ?_⟩
  refine h G M σ H σd μ _ _ hK S q fun v1 H1 d1 μ1 S1 r1 q1 => ?_
  obtain ⟨a, rfl, z, q1⟩ := q1
  cases (show v1 = .str a from r1)
  refine ⟨rfl, ?_⟩
  refine h' G M σ H1 σd μ1 _ _ hK S1 q1 fun v2 H2 d2 μ2 S2 r2 q2 => ?_
  obtain ⟨b, rfl, q⟩ := q2
  cases (show v2 = .str b from r2)
  exact ⟨a, b, rfl, rfl, z, k _ _ _ _ S2 (rpS _) q⟩
theorem e_rstrip {σ : DSt} {μ : Mem} {Q : D → Mem → Prop} (h : ta σ μ fun x μ1 => ∃ a, x = .str a ∧ a.length ≤ sizeLine ∧ tb σ μ1 fun y μ2 => ∃ b, y = .str b ∧ Q (.str (Txt.rstripChars a b)) μ2) : dRstrip ta tb σ μ Q := h
end
end DL

set_option maxRecDepth 100000
namespace DL
open PySem PySem.Spec PyProof.Rows L2 PySem.SeqAt
section
variable {A : Around} {s : Shared}
theorem str_declines (b : Str) (u : Tok) (l : Addr) (c : Value) (es : Array DictEntry) (n : Nat) (dd : Option Addr) (sl : Array (Option Value)) :
    Meets (PySem.Builtin.«str.__eq__» ⟨[.str b u, .ref l], []⟩) (fun _ R s => s.heap.get? l = some { cls := c, dict := dd, data := .dict es n, slots := sl } ∧ R (.ok (.ret .notImplemented)) s) :=
  .of_wp fun prog w A R s h => by obtain ⟨hp, g, d, tk, os⟩ := s; obtain ⟨hl, h⟩ := h; wp_walk using wpAny_loadPart' hl, wpAny_load hl; exact ⟨_, rfl, h⟩
theorem dict_declines (l : Addr) (es : Array DictEntry) (n : Nat) (dd : Option Addr) (sl : Array (Option Value)) (b : Str) (u : Tok) :
    Meets (PySem.Builtin.«dict.__eq__» ⟨[.ref l, .str b u], []⟩) (fun _ R s => s.heap.get? l = some { cls := .type "dict", dict := dd, data := .dict es n, slots := sl } ∧ R (.ok (.ret .notImplemented)) s) :=
  .of_wp fun prog w A R s h => by obtain ⟨hp, g, d, tk, os⟩ := s; obtain ⟨hl, h⟩ := h; have f1 := F.sub_str_dict; wp_walk using wpAny_loadPart' hl; exact ⟨_, rfl, h⟩
theorem eqAt_str_dict (b : Str) (u : Tok) {l : Addr} {o : Obj} {es : Array DictEntry} {n : Nat} (ho : s.heap.get? l = some o) (hc : o.cls = .type "dict") (hd : o.data = .dict es n) (hu : A.units < cLine) : EqAt A s (.str b u) (.ref l) false := fun prog w E Q h => by
  obtain ⟨c, dd, dt, sl⟩ := o
  cases hc
  cases hd
  unfold eqBool
  refine wpAny_holding ?_
  refine wpAny_ite_split (fun hab => absurd (eq_of_beq hab) nofun) (fun _ => ?_)
  refine wpAny_bind ?_
  exact rc_eq_decline_or (k := false) (typeIs_str s b u) ⟨_, ho, rfl⟩ (by decide) F.sub_dict_str F.slot_str_eq F.slot_dict_eq_refl
    (fun _ hq => call_meets F.slot_str_eq (typeIs_str s b u) F.entry_str_eq (F.args_str_eq_2 _ _) (str_declines b u l (.type "dict") es n dd sl) ⟨ho, hq⟩)
    (fun _ hq => call_meets F.slot_dict_eq_refl ⟨_, ho, rfl⟩ F.entry_dict_eq (F.args_dict_eq_2 _ _) (dict_declines l es n dd sl b u) ⟨ho, hq⟩)
    (fun _ hq => wpAny_of_eq (rfl : isSame (.str b u) (.ref l) = pure false) hq) (.inr hu) (wpAny_truthy_bool h)
end
/-! ### x in a row of texts, x of any kind -/
def eqS (v w : Value) : Bool := match w, v with
  | .str z _, .str y _ => z == y
  | _, _ => false
def inS (x : V) (zs : List Str) : Bool := match x with
  | .str y => zs.any fun z => z == y
  | _ => false
def okS (K : PySem.W.Frag) (H : Hp) (x : V) : Prop := match x with
  | .non => True
  | .bl _ => True
  | .int _ => True
  | .str _ => True
  | .ref a => (∃ ys, SqL K H a ys) ∨ (∃ ys, SqT K H a ys) ∨ ∃ kvs, H a = some (.dK kvs)
  | _ => False
def rInS (K : PySem.W.Frag) : R2 := fun x y H Q => ∃ p zs, y = .ref p ∧ (SqL K H p (zs.map V.str) ∨ SqT K H p (zs.map V.str)) ∧ okS K H x ∧ Q (.bl (inS x zs)) H
section
variable {X : Cx}
theorem eqS_at {pins : List (Addr × Obj)} {σ : L2.St} {H : Hp} {s : Shared} {x : V} {v : Value} (hu : X.A.units + 64 < cLine) (I : Inv X pins σ H s) (rx : RelV x v) (ok : okS X.K H x) (z : Str) (t : Tok) : EqAt X.A.in1 s (.str z t) v (eqS v (.str z t)) := by
  have hu1 : X.A.in1.units < cLine := by show X.A.units + 1 < cLine; omega
  cases x with
  | non => cases rx; exact EqAt.str_none z t
  | bl b => cases rx; exact EqAt.str_bool z t b
  | int i => obtain ⟨t', rfl⟩ := rx; exact EqAt.str_int z t i t'
  | str y => obtain ⟨t', rfl⟩ := rx; exact EqAt.str_str z t y t'
  | ref a =>
    cases rx
    rcases ok with ⟨ys, h⟩ | ⟨ys, h⟩ | ⟨kvs, h⟩
    · obtain ⟨its, r, pl, hz⟩ := I.list h
      exact EqAt.str_list z t pl.isList hu1
    · obtain ⟨its, r, pl, hz⟩ := I.tuple h
      exact EqAt.str_tuple z t pl hu1
    · obtain ⟨_, hne, vs, hkv, o, es, ep, ho, ⟨hc, _, _⟩, hd, _⟩ := I.hok a _ h
      exact eqAt_str_dict z t ho hc hd hu1
  | _ => exact ok.elim
theorem eqS_all {pins : List (Addr × Obj)} {σ : L2.St} {H : Hp} {s : Shared} {x : V} {v : Value} (hu : X.A.units + 64 < cLine) (I : Inv X pins σ H s) (rx : RelV x v) (ok : okS X.K H x) : ∀ {zs : List Str} {us : List Value}, Vals (zs.map V.str) us → (∀ w ∈ us, EqAt X.A.in1 s w v (eqS v w)) ∧ us.any (eqS v) = inS x zs
  | [], _, .nil => ⟨(fun _ h => nomatch h), by cases x <;> rfl⟩
  | z :: zs, u :: us, .cons r rs => by
    obtain ⟨t, rfl⟩ := r
    obtain ⟨h1, h2⟩ := eqS_all hu I rx ok rs
    refine ⟨fun w hw => ?_, ?_⟩
    · rcases List.mem_cons.mp hw with rfl | hw
      · exact eqS_at hu I rx ok z t
      · exact h1 w hw
    · rw [List.any_cons, h2]
      cases x with
      | str y => obtain ⟨t', rfl⟩ := rx; rfl
      | non => cases rx; rfl
      | bl b => cases rx; rfl
      | int i => obtain ⟨t', rfl⟩ := rx; rfl
      | ref a => cases rx; rfl
      | _ => exact ok.elim
theorem op_inS (hu : X.A.units + 64 < cLine) : OpR X (compareOp .In) (rInS X.K) := by
  intro pins s σ H x y v u Q I rx ry h
  obtain ⟨p, zs, rfl, hq, ok, q⟩ := h
  cases ry
  rcases hq with hq | hq
  · obtain ⟨its, r, pl, hz⟩ := I.list hq
    obtain ⟨h1, h2⟩ := eqS_all hu I rx ok r
    refine SeqAt.in_listAt (eqS v) pl.isList (fun w hw => h1 w (by simpa using hw)) ⟨.bl _, H, I, rfl, ?_⟩
    rw [show its.toArray.any (eqS v) = its.any (eqS v) by simp, h2]
    exact q
  · obtain ⟨its, r, pl, hz⟩ := I.tuple hq
    obtain ⟨h1, h2⟩ := eqS_all hu I rx ok r
    refine SeqAt.in_tupleAt (eqS v) pl (fun w hw => h1 w (by simpa using hw)) ⟨.bl _, H, I, rfl, ?_⟩
    rw [show its.toArray.any (eqS v) = its.any (eqS v) by simp, h2]
    exact q
/-- is it one of the texts -/
def D.inS (d : D) (zs : List Str) : Bool := match d with
  | .str y => zs.any fun z => z == y
  | _ => false
def dInS : DR2 := fun x y μ Q => ∃ zs : List Str, seqOf μ y = some (zs.map D.str) ∧ x.flr = true ∧ Q (.bl (x.inS zs)) μ
theorem strs_rps {K : PySem.W.Frag} {bx : List Addr} {M : Addr → Prop} {H : Hp} : ∀ {zs : List Str} {xs : List V}, Rps K bx M H (zs.map D.str) xs → xs = zs.map V.str
  | [], _, r => r
  | z :: zs, _, r => by
    obtain ⟨v, vr, rfl, r1, r2⟩ := r
    rw [show v = .str z from r1, strs_rps r2]; rfl
theorem od_inS (hu : X.A.units + 64 < cLine) : OD X (compareOp .In) dInS := by
  refine ⟨_, op_inS hu, fun G M σ H σd μ x y dx dy Q R hK S rx ry q k => ?_⟩
  obtain ⟨zs, e, fx, q⟩ := q
  obtain ⟨a, xs, rfl, hs, rs⟩ := sq_seq S ry e
  rw [strs_rps rs, hK] at hs
  refine ⟨a, zs, rfl, hs, ?_, ?_⟩
  · rw [hK] at rx
    cases dx with
    | non => cases (show _ = _ from rx); trivial
    | bl b => cases (show _ = _ from rx); trivial
    | int i => cases (show _ = _ from rx); trivial
    | str z => cases (show _ = _ from rx); trivial
    | tup l => obtain ⟨b, ys, rfl, o, _⟩ := rx; exact .inr (.inl ⟨ys, o.sq⟩)
    | lst l => obtain ⟨b, ys, rfl, o, _⟩ := rx; exact .inl ⟨ys, o.sq⟩
    | dct l => obtain ⟨b, rfl, _, h⟩ := rx; exact .inr (.inr ⟨_, h⟩)
    | own l => cases fx
    | frz l => cases fx
    | box l => cases fx
    | ty l => cases fx
    | exc _ _ _ _ => cases fx
  · have e2 : inS x zs = dx.inS zs := by
      cases dx with
      | non => cases (show _ = _ from rx); rfl
      | bl b => cases (show _ = _ from rx); rfl
      | int i => cases (show _ = _ from rx); rfl
      | str z => cases (show _ = _ from rx); rfl
      | tup l => obtain ⟨b, ys, rfl, o, _⟩ := rx; rfl
      | lst l => obtain ⟨b, ys, rfl, o, _⟩ := rx; rfl
      | dct l => obtain ⟨b, rfl, _, h⟩ := rx; rfl
      | own l => cases fx
      | frz l => cases fx
      | box l => cases fx
      | ty l => cases fx
      | exc _ _ _ _ => cases fx
    rw [e2]
    exact k _ _ (.bl _) _ S rfl q
theorem e_inS {x y : D} {μ : Mem} {Q : D → Mem → Prop} {zs : List Str} (h1 : seqOf μ y = some (zs.map D.str)) (h2 : x.flr = true) (h : Q (.bl (x.inS zs)) μ) : dInS x y μ Q := ⟨zs, h1, h2, h⟩
end
end DL

set_option maxRecDepth 100000
namespace DL
open PySem PySem.Spec L2
/-! ### a module's tuple of texts -/
def strsAre : List Value → List Str → Bool
  | [], [] => true
  | .str z _ :: r, y :: s => (z == y) && strsAre r s
  | _, _ => false
def tupStrs (o : Obj) (zs : List Str) : Bool := (match o.cls with | .type n => n == "tuple" | _ => false) && match o.data with
  | .seq its _ => decide (its.size ≤ 1000) && strsAre its.toList zs
  | _ => false
theorem strsAre_vals : ∀ {us : List Value} {zs : List Str}, strsAre us zs = true → Vals (zs.map V.str) us
  | [], [], _ => .nil
  | .str z t :: r, y :: s, h => by
    unfold strsAre at h
    rw [Bool.and_eq_true] at h
    obtain ⟨h1, h2⟩ := h
    cases (beq_iff_eq.mp h1)
    exact .cons ⟨t, rfl⟩ (strsAre_vals h2)
theorem sqT_of {K : PySem.W.Frag} {H : Hp} {a : Addr} {o : Obj} {zs : List Str} (h : K.lookup a = some o) (e : tupStrs o zs = true) : SqT K H a (zs.map V.str) := by
  obtain ⟨c, dd, dt, sl⟩ := o
  unfold tupStrs at e
  rw [Bool.and_eq_true] at e
  obtain ⟨e1, e2⟩ := e
  simp only at e1 e2
  split at e1
  · rename_i n
    cases (beq_iff_eq.mp e1)
    split at e2
    · rename_i its n
      rw [Bool.and_eq_true, decide_eq_true_eq] at e2
      exact .inr ⟨_, its, n, h, rfl, rfl, by rw [sizeLine_eq]; omega, strsAre_vals e2.2⟩
    · cases e2
  · cases e1
theorem rps_strs {K : PySem.W.Frag} {bx : List Addr} {M : Addr → Prop} {H : Hp} : ∀ zs : List Str, Rps K bx M H (zs.map D.str) (zs.map V.str)
  | [] => rfl
  | z :: zs => ⟨_, _, rfl, rfl, rps_strs zs⟩
theorem de_globT {X : Cx} {x : Str} {pos : Pos} {zs : List Str} (hg : Gl X x) (h : ∃ a, X.mg x = some (.ref a) ∧ SqT X.K (fun _ => none) a (zs.map V.str)) (hd : (x == ("__debug__" : Str)) = false := by decide) : DE X (.Name x pos) (dC (.tup (zs.map D.str))) := by
  obtain ⟨a, hm, ht⟩ := h
  refine ⟨_, pe_glob (v := .ref a) hg hm rfl hd, fun G M σ H σd μ Q R hK S q k => ?_⟩
  exact k (.ref a) H (.tup (zs.map D.str)) μ S ⟨a, _, rfl, .inr (by rw [hK]; exact ht), rps_strs zs⟩ q
end DL

set_option maxRecDepth 100000
set_option maxHeartbeats 2000000
/-! enumerate(a tuple) -/
namespace DL
open PySem PySem.Spec L2 PyProof.Rows
theorem enumNew1 {z : Value} {ob : Obj} {HH : Heap → Prop} (B : Begins z ob HH) :
    Meets (Builtin.«enumerate.__new__» ⟨[.type "enumerate", z], []⟩)
      (fun _ R st => HH st.heap ∧ R (.ok (.ret (.ref (st.heap.push ob).objs.size)))
        { st with heap := (st.heap.push ob).push { cls := .type "enumerate", data := .fields #[.none, .bool false, .ref st.heap.objs.size, rawInt 0, .none, .none] } }) :=
  .of_wp fun prog w A R st hh => by
    obtain ⟨hp, gn, dr, tk, os⟩ := st; obtain ⟨b1, hh⟩ := hh
    have hsub := sub_enumerate
    have it1 : ∀ {A' : Around} {E : Value → Shared → Prop} {Q : Value → Shared → Prop},
        Q (.ref hp.objs.size) ⟨hp.push ob, gn, dr, tk, os⟩ → wpAny (model prog w) A' (pyIter z) Q E ⟨hp, gn, dr, tk, os⟩ :=
      fun y => B.iter prog w _ _ ⟨hp, gn, dr, tk, os⟩ _ b1 y
    wp_walk using it1
    refine wpAny_stack_any fun sk => wpAny_pure ?_
    split
    · rename_i cc _ _ _ _ _
      cases (cc == Value.type "enumerate") <;> (wp_walk using it1; exact ⟨_, rfl, hh⟩)
    · wp_walk using it1
      exact ⟨_, rfl, hh⟩
theorem enumBegins1 {prog : Program} {w : World} {A : Around} {E : Value → Shared → Prop} {st : Shared} {z : Value} {ob : Obj} {HH : Heap → Prop} {Q : Value → Shared → Prop} (B : Begins z ob HH) (b1 : HH st.heap)
    (k : ∀ h2, IsEnum h2 (st.heap.objs.size + 1) st.heap.objs.size 0 .none → h2.get? st.heap.objs.size = some ob → (∀ b o, st.heap.get? b = some o → h2.get? b = some o) → Q (.ref (st.heap.objs.size + 1)) { st with heap := h2 }) :
    wpAny (model prog w) A (call (.type "enumerate") [z]) Q E st := by
  refine callType_new F.called_enumerate (by decide) (F.typeCall_enumerate_1 _) (F.newCall_enumerate_1 _) (fun ob' => F.args_object_init_2 ob' _) F.entry_enumerate_new (enumNew1 B) ⟨b1, ?_⟩
  have sz : (st.heap.push ob).objs.size = st.heap.objs.size + 1 := Heap.size_push ..
  show _ ∧ _
  rw [sz]
  have g2 := Heap.get?_push_size (st.heap.push ob) (o := { cls := .type "enumerate", data := .fields #[.none, .bool false, .ref st.heap.objs.size, rawInt 0, .none, .none] }) rfl
  rw [sz] at g2
  exact ⟨⟨_, g2, rfl⟩, k _ g2 (Heap.get?_push_of_some _ (Heap.get?_push_size _ B.free)) fun b o y => Heap.get?_push_of_some _ (Heap.get?_push_of_some _ y)⟩
/-- the tuple at a, each item in a new pair with its index -/
def IxT (K : PySem.W.Frag) (a : Addr) : It where
  go := fun n H => ∃ (l : List V) (y : V), SqT K H a l ∧ l[n]? = some y
  yld := fun n H v H2 => ∃ T y, v = .ref T ∧ H T = none ∧ H2 = upd H T (.tup [.int (n : Nat), y]) ∧ ∀ l, SqT K H a l → l[n]? = some y
  stop := fun n H => ∃ l : List V, SqT K H a l ∧ l.length ≤ n
theorem turn_ixT {P : Program} {w : World} {K : PySem.W.Frag} {elts : List Expr} {kk : Nat} {tpos : Pos} (a e it : Addr) (ane : a ≠ it) (eae : e ≠ a) :
    Turn P w K (.Tuple elts kk tpos) (IxT K a) [e, it] e (fun n h => (∃ old, IsEnum h e it ((n : Nat) : Int) old) ∧ h.IsTupleIter it a n ∧ e ≠ it) where
  mem := List.mem_cons_self ..
  obj := fun n h tn b hb => by
    obtain ⟨⟨old, q1⟩, ⟨ob, q2, _, q3⟩, _⟩ := tn
    rcases List.mem_cons.mp hb with z | z
    · rw [z]; exact ⟨_, q1, fun v y => nomatch y⟩
    · rw [List.mem_singleton.mp z]; exact ⟨ob, q2, fun v y => by rw [q3] at y; cases y⟩
  keep := fun n h h2 tn k => let ⟨⟨old, q1⟩, q2, q3⟩ := tn; ⟨⟨old, k e (List.mem_cons_self ..) _ q1⟩, q2.at fun ob y => k it (List.mem_cons_of_mem _ (List.mem_cons_self ..)) ob y, q3⟩
  item := by
    intro X hP hw hK hc n pins st σ H E I hf tn go
    obtain ⟨⟨old, q1⟩, q2, q3⟩ := tn
    obtain ⟨l, y, lq, ly⟩ := go
    subst hP hw hK
    obtain ⟨its, rv, p, hz⟩ := I.tuple lq
    obtain ⟨u, hu, ru⟩ := rv.get ly
    have le : e < st.heap.objs.size := Heap.lt_size q1
    have li : it < st.heap.objs.size := by obtain ⟨_, y, _⟩ := q2; exact Heap.lt_size y
    have D := Draws.tuple (prog := X.prog) (w := X.w) (A := X.A.in1) (I.ok.hd hc) it a ane its.toArray
    have hn : n < its.toArray.size := by
      have := (List.getElem?_eq_some_iff.mp hu).1
      simpa using this
    refine wpAny_pyNext_enum_itemD D q1 ⟨q2, p⟩ hn q3 (by simp [q3, eae]) fun x h2 tk hx ho hs hT hsz hk => ?_
    refine ⟨_, rfl, wpAny_letOwnedTupleGo_enum (s := { st with heap := h2, toks := tk + 1 }) ho fun h3 he3 sb => ?_⟩
    have hx' : its[n]? = some x := by simpa using hx
    rw [hu] at hx'; cases hx'
    have t3 : h3.get? st.heap.objs.size = some { cls := .type "tuple", data := .seq #[.int n tk, u] } := (sb.2 _ (Nat.ne_of_gt le)).trans hT
    have nw : ObjOk X.prog X.w (upd H st.heap.objs.size (.tup [.int (n : Nat), y])) h3 st.heap.objs.size (.tup [.int (n : Nat), y]) :=
      ⟨by show 2 ≤ sizeLine; decide, [.int n tk, u], .cons ⟨_, rfl⟩ (.cons ru .nil), ⟨_, t3, rfl, _, rfl⟩⟩
    have I1 : Inv X pins σ (upd H st.heap.objs.size (.tup [.int (n : Nat), y])) { st with heap := h3, toks := tk + 1 } :=
      I.turnedNew (ch := [e, it]) (fun b ob hb q => (sb.2 b (fun z => hb (by simp [z]))).trans (hk b ob (fun z => hb (by simp [z])) (fun z => hb (by simp [z])) q)) hf (Nat.le_refl _) nw
    refine ⟨.ref st.heap.objs.size, _, I1, rfl, ⟨_, y, rfl, I.hok.fresh (Nat.le_refl _), rfl, fun l2 hl2 => by rw [I.tuple_inj hl2 lq]; exact ly⟩, ⟨⟨u, ?_⟩, hs.1.at fun ob q => (sb.2 it (Ne.symm q3)).trans q, q3⟩, fun b hb => ?_⟩
    · have e1 : ((n + 1 : Nat) : Int) = (n : Int) + 1 := by omega
      rw [e1]; exact he3
    · have lb : b < st.heap.objs.size := by
        rcases List.mem_cons.mp hb with z | z
        · rw [z]; exact le
        · rw [List.mem_singleton.mp z]; exact li
      rw [upd_ne (Nat.ne_of_lt lb)]
      exact (hf b hb).1
  done := by
    intro X hP hw hK hc n pins st σ H E I hf tn go
    obtain ⟨⟨old, q1⟩, q2, q3⟩ := tn
    obtain ⟨l, lq, ln⟩ := go
    subst hP hw hK
    obtain ⟨its, rv, p, hz⟩ := I.tuple lq
    obtain ⟨f0, f1, f2, f3, f4, f5⟩ := hf it (by simp)
    have ll := rv.length
    have hh : X.A.in1.handled = none := I.ok.hd hc
    have hT : st.TypeIs (.ref e) "enumerate" := ⟨_, q1, rfl⟩
    unfold pyNext
    refine wpAny_bind (wpAny_attempt (wpAny_callSpecial?_slot (name := Str.ofString "__next__") hT F.slot_enumerate_next (wpAny_call_entry F.slot_enumerate_next hT F.entry_enumerate_next ?_ (F.args_enumerate_next_1 _))))
    show wpAny _ _ (field (.ref e) 2 >>= _) _ _ _
    refine wpAny_bind (wpAny_field q1 rfl (x := .ref it) rfl ?_)
    refine wpAny_bind (wpAny_nextOf_tuple_end hh q2 (show st.heap.IsTuple a its.toArray from p) (by simp; omega) fun h2 x hb hx => ?_)
    obtain ⟨ob, ho, hcl⟩ := hx
    refine wpAny_bind (wpAny_isInstance (T := "StopIteration") (b := true) ⟨ob, ho, hcl⟩ isSubtype_stop ?_)
    exact wpAny_pure ⟨rfl, I.turned (t' := st.toks) (fun b o hb' q => hb b o hb' q) f0 f1 f3 f4 f5⟩
  self := fun A n st Q E tn h => let ⟨⟨_, q1⟩, _⟩ := tn; wpAny_pyIter_enum q1 h
def iIxT (K : PySem.W.Frag) (ta : TA) : TI := fun σ H R => ta σ H fun vs H1 => ∃ a l, vs = [.ref a] ∧ SqT K H1 a l ∧ R (IxT K a) H1
theorem pi_ixT {X : Cx} {e : Expr} {ta : TA} {p pos tpos : Pos} {elts : List Expr} {kk : Nat} (hg : Gl X "enumerate") (hm : X.mg "enumerate" = none) (ha : PA X [e] ta) (hs : starEach [e] X.env = [(false, eval e X.env)] := by rfl) :
    PI X (.Tuple elts kk tpos) (.Call (.Name "enumerate" p) [e] [] pos) (iIxT X.K ta) := by
  refine ⟨fun pins st σ H R I h => ?_⟩
  refine Call_ (ld_blt I hg hm boot_enumerate (PyProof.Rows.callWith_type1 (thn (ha.run pos pins st σ H _ I h) fun us s1 ⟨vs, H1, I1, r1, q1⟩ => ?_) hs rfl))
  obtain ⟨a, l, ex, lq, q⟩ := q1
  subst ex
  cases r1 with
  | cons r rr =>
    cases rr
    cases r
    obtain ⟨its, rv, p', hz⟩ := I1.tuple lq
    have at' : s1.heap.IsTuple a its.toArray := p'
    refine enumBegins1 (begins_tuple a its.toArray) at' fun h2 he hit hk => wpAny_pyIter_enum he ?_
    have I2 : Inv X pins σ H1 { s1 with heap := h2 } := I1.kept (t' := s1.toks) hk
    have al : a < s1.heap.objs.size := by obtain ⟨_, y, _⟩ := at'; exact Heap.lt_size y
    refine ⟨s1.heap.objs.size + 1, [s1.heap.objs.size + 1, s1.heap.objs.size], _, _, H1, rfl, I2, turn_ixT a (s1.heap.objs.size + 1) s1.heap.objs.size (Nat.ne_of_lt al) (Ne.symm (Nat.ne_of_lt (Nat.lt_succ_of_lt al))), ⟨⟨.none, he⟩, ⟨_, hit, rfl, rfl⟩, Nat.succ_ne_self _⟩, fun b hb => ?_, q⟩
    have hle : s1.heap.objs.size ≤ b := by
      rcases List.mem_cons.mp hb with z | z
      · rw [z]; exact Nat.le_add_right _ _
      · rw [List.mem_singleton.mp z]; exact Nat.le_refl _
    exact I1.fpOk hle (I1.hok.fresh hle)
/-- the pairs (index, item) -/
def ixD (l : List D) : List D := l.mapIdx fun i d => .tup [.int (i : Nat), d]
def dIxT (ta : DTA) : DTI := fun σd μ Q => ta σd μ fun ds μ1 => ∃ l, ds = [.tup l] ∧ Q (ixD l) μ1
theorem ixD_get {l : List D} {i : Nat} : (ixD l)[i]? = (l[i]?).map fun d => .tup [.int (i : Nat), d] := by
  unfold ixD; rw [List.getElem?_mapIdx]
theorem di_ixT {X : Cx} {a : Expr} {ta : DTA} {p pos tpos : Pos} {elts : List Expr} {kk : Nat} (ha : DA X [a] ta) (hp : ∀ ta', PA X [a] ta' → PI X (.Tuple elts kk tpos) (.Call (.Name "enumerate" p) [a] [] pos) (iIxT X.K ta')) : DI X (.Tuple elts kk tpos) (.Call (.Name "enumerate" p) [a] [] pos) (dIxT ta) := by
  obtain ⟨te, p, h⟩ := ha.ex
  refine ⟨_, hp _ p, fun G M σ H σd μ Q R hK S q k => ?_⟩
  refine h G M σ H σd μ _ _ hK S q fun vs H1 ds μ1 S1 r1 q1 => ?_
  obtain ⟨l, rfl, q1⟩ := q1
  obtain ⟨v, rfl, r⟩ := rps1 r1
  obtain ⟨a1, xs, rfl, h1, h2⟩ := id r
  have again : ∀ (G' : Gm) M σ H σd μ, G'.K = G.K → G'.bx = G.bx → (∀ q ∈ [(V.ref a1, D.tup l)], q ∈ G'.Fr) → SR G' M σ H σd μ → (∃ xs, SqT X.K H a1 xs ∧ Rps G'.K G'.bx M H l xs) := fun G' M σ H σd μ eK eb hF S' => by
    obtain ⟨a', xs, ea, h1, h2⟩ := S'.fr _ (hF _ (List.mem_singleton.mpr rfl))
    cases ea
    exact ⟨xs, by rw [← hK, ← eK]; exact h1.sq, h2⟩
  refine ⟨a1, xs, rfl, by rw [← hK]; exact h1.sq, k [(.ref a1, .tup l)] _ _ (ixD l) μ1 (S1.pinL fun q hq => by rw [List.mem_singleton.mp hq]; exact r) ⟨?_, ?_, ?_⟩ q1⟩
  · intro G' M σ H σd μ i eK eb hF S' hi
    obtain ⟨xs, h1, h2⟩ := again G' M σ H σd μ eK eb hF S'
    have hi' : i < l.length := by simpa [ixD] using hi
    obtain ⟨v, e3, _⟩ := h2.get (List.getElem?_eq_getElem hi')
    exact ⟨xs, v, h1, e3⟩
  · intro G' M σ H σd μ eK eb hF S'
    obtain ⟨xs, h1, h2⟩ := again G' M σ H σd μ eK eb hF S'
    exact ⟨xs, h1, by rw [h2.len]; simp [ixD]⟩
  · intro G' M σ H σd μ i x H' d' eK eb hF S' hi y
    obtain ⟨T, y1, rfl, hT, rfl, yx⟩ := y
    obtain ⟨xs, h1, h2⟩ := again G' M σ H σd μ eK eb hF S'
    rw [ixD_get] at hi
    cases ed : l[i]? with
    | none => rw [ed] at hi; cases hi
    | some d =>
      rw [ed] at hi
      cases hi
      obtain ⟨v, e3, r3⟩ := h2.get ed
      have := yx xs h1
      rw [e3] at this; cases this
      exact ⟨S'.new hT, S'.newT hT ⟨_, _, rfl, rfl, _, _, rfl, r3, rfl⟩⟩
theorem e_ixT {σ : DSt} {μ : Mem} {ta : DTA} {Q : List D → Mem → Prop} (h : ta σ μ fun ds μ1 => ∃ l, ds = [.tup l] ∧ Q (ixD l) μ1) : dIxT ta σ μ Q := h
theorem e_ixT1 {l : List D} {R : List D → Prop} (h : R l) : ∃ m, [D.tup l] = [.tup m] ∧ R m := ⟨l, rfl, h⟩
end DL

set_option maxRecDepth 100000
set_option maxHeartbeats 2000000
/-! x, y = (e, []) with y a list of one's own; sorted of a list of tuples of ints -/
namespace DL
open PySem PySem.Spec L2
section
variable {X : Cx}
def dParOwn2 (i j : Nat) (t : DTE) : DTS := fun De σd μ => t σd μ fun d μ1 => De.nx ((σd.set i (some d)).set j (some (.own []))) μ1
theorem ds_parOwn2 {i j : Nat} {x y : Str} {e : Expr} {t : DTE} {px py pt p1 pos : Pos} {kt k2 pt2} (he : DE X e t) (hp : ∀ ta', PA X [e, .List [] p1] ta' → PS X (.Assign [.Tuple [.Name x px, .Name y py] kt pt] (.Tuple [e, .List [] p1] k2 pt2) pos) (tPar i j ta'))
    (hs : starEach [e, .List [] p1] X.env = (false, eval e X.env) :: starEach [.List [] p1] X.env := by rfl) :
    DS X (.Assign [.Tuple [.Name x px, .Name y py] kt pt] (.Tuple [e, .List [] p1] k2 pt2) pos) (dParOwn2 i j t) := by
  obtain ⟨te, p, h⟩ := he.ex
  refine ⟨_, hp _ (pa_cons p (pa_cons (pe_lst pa_nil) pa_nil) hs), fun G M σ H σd μ De E hK S q L => ?_⟩
  refine h G M σ H σd μ _ _ hK S q fun v H1 d μ1 S1 r1 q1 => ?_
  exact ⟨Nat.zero_le _, fun p hp => ⟨_, _, rfl, L.nx _ _ _ _ _ (SR.ownSet (l := []) (xs := []) (S1.set i r1) j (p := p) hp rfl) q1⟩⟩
theorem e_parOwn2 {i j : Nat} {t : DTE} {De : DEnds} {σ : DSt} {μ : Mem} (h : t σ μ fun d μ1 => De.nx ((σ.set i (some d)).set j (some (.own []))) μ1) : dParOwn2 i j t De σ μ := h
/-! tuples of ints of any sign: compared as their items moved by C -/
def sh (C : Int) (ns : List Int) : List Int := ns.map fun i => i + C
section
open TS PySem.W PyProof.Rows
variable {prog : Program} {w : World} {A : Around} {st : Shared} {B C : Int}
theorem sh_len (ns : List Int) : (sh C ns).length = ns.length := List.length_map ..
theorem lexSh {Q : Bool → Shared → Prop} {bo : Bool} {us zs : List Value} {ns ms : List Int} (i : Nat) (hx : IntsAre us ns) (hy : IntsAre zs ms) (hl : ns.length = ms.length) (h1 : TS.Bd B (sh C ns)) (h2 : TS.Bd B (sh C ms))
    (q : Q (decide (TS.code B (sh C ns) < TS.code B (sh C ms))) st) : KatLex prog w A bo false Q (us.zip zs) i st := by
  induction hx generalizing zs ms i with
  | nil =>
    cases hy with
    | nil =>
      rw [show decide (TS.code B (sh C []) < TS.code B (sh C [])) = false from decide_eq_false (Int.lt_irrefl _)] at q
      exact kat_nil q
    | cons b u hy => simp at hl
  | @cons a t us ns hx ih =>
    cases hy with
    | nil => simp at hl
    | @cons b u zs ms hy =>
      have hl' : ns.length = ms.length := by simpa using hl
      have hs : (sh C ns).length = (sh C ms).length := by rw [sh_len, sh_len]; exact hl'
      show KatLex prog w A bo false Q ((Value.int a t, Value.int b u) :: us.zip zs) i st
      have e1 : ∀ x l, sh C (x :: l) = (x + C) :: sh C l := fun _ _ => rfl
      rw [e1] at h1
      rw [e1] at h2
      rw [e1, e1] at q
      refine kat_cons (wpAny_eqBool_int ?_)
      by_cases e : a = b
      · subst e
        rw [beq_self_eq_true]
        rw [show decide (TS.code B ((a + C) :: sh C ns) < TS.code B ((a + C) :: sh C ms)) = decide (TS.code B (sh C ns) < TS.code B (sh C ms)) from decide_eq_decide.mpr (TS.code_same hs)] at q
        refine kat_yes ?_
        first
          | exact ih (i + 1) hy hl' h1.tail h2.tail q
          | exact ih _ _ (i + 1) hy hl' h1.tail h2.tail q
      · rw [show (a == b) = false from beq_eq_false_iff_ne.mpr e]
        refine kat_no (TS.oneLt_ints _ ?_)
        have d : decide (TS.code B ((a + C) :: sh C ns) < TS.code B ((b + C) :: sh C ms)) = decide (a < b) := by
          refine decide_eq_decide.mpr ⟨fun x => ?_, fun x => TS.code_lt hs h1.tail h2.tail (by omega)⟩
          rcases Int.lt_trichotomy a b with y | y | y
          · exact y
          · exact absurd y e
          · have := TS.code_lt (B := B) hs.symm h2.tail h1.tail (d := b + C) (e := a + C) (by omega)
            omega
        rw [d] at q
        exact q
/-- what is sorted -/
def TupsSh (h : Heap) (d : Nat) (B C : Int) (vs : List Value) : Prop := ∀ v, v ∈ vs → ∃ ns, TS.TupInts h v ns ∧ ns.length = d ∧ TS.Bd B (sh C ns)
theorem firstsSh {h : Heap} {d : Nat} (hd : 1 ≤ d) : ∀ vs : List Value, TupsSh h d B C vs → ∃ fs, KatTups h vs fs ∧ fs.length = vs.length ∧ ∀ f, f ∈ fs → ∃ n t, f = Value.int n t
  | [], _ => ⟨[], KatTups.nil, rfl, fun f hf => by simp at hf⟩
  | v :: vs, x => by
    obtain ⟨fs, kt, hl, hi⟩ := firstsSh hd vs fun u hu => x u (List.mem_cons_of_mem _ hu)
    obtain ⟨ns, ⟨a, us, rfl, ⟨o, ho, hc, n, hdt⟩, ia⟩, hn, _⟩ := x v (List.mem_cons_self ..)
    obtain ⟨y, ys, ey⟩ : ∃ y ys, us.toList = y :: ys := by
      cases q : us.toList with
      | nil =>
        rw [q] at ia
        have l := ia.length
        rw [List.length_nil, hn] at l
        omega
      | cons y ys => exact ⟨y, ys, rfl⟩
    obtain ⟨m, t, hy⟩ := ia.all y (by rw [ey]; exact List.mem_cons_self ..)
    refine ⟨y :: fs, KatTups.cons ho hc hdt ?_ kt, by simp [hl], fun f hf => ?_⟩
    · have z := congrArg (fun l : List Value => l[0]?) ey
      simpa using z
    · rcases List.mem_cons.mp hf with rfl | hf
      · exact ⟨m, t, hy⟩
      · exact hi f hf
abbrev ltR (r : Value → Int) : Value → Value → Bool := fun v u => decide (r v < r u)
theorem swoR (r : Value → Int) : SrtO.Swo (ltR r) := by
  refine ⟨fun x y h => ?_, fun x y z h1 h2 => ?_⟩
  · have := of_decide_eq_true h
    exact decide_eq_false (by omega)
  · have a := of_decide_eq_false h1
    have b := of_decide_eq_false h2
    exact decide_eq_false (by omega)
theorem cmpSh {d : Nat} {vs : List Value} {r : Value → Int} (x : TupsSh st.heap d B C vs) (hr : ∀ v, v ∈ vs → ∀ ns, TS.TupInts st.heap v ns → r v = TS.code B (sh C ns)) : SrtO.Cmp prog w A st (tuples' true) (fun p => p.1 ∈ vs) (SrtO.lt2 (ltR r)) := by
  intro p q hp hq
  obtain ⟨ns, tp, lp, bp⟩ := x _ hp
  obtain ⟨ms, tq, lq, bq⟩ := x _ hq
  have ep := hr _ hp _ tp
  have eq2 := hr _ hq _ tq
  show wpAny _ _ _ (fun z s' => s' = st ∧ z = decide (r p.1 < r q.1)) _ _
  rw [ep, eq2]
  obtain ⟨a, us, e1, ⟨o, ho, hc, n, hdt⟩, ia⟩ := tp
  obtain ⟨a', zs, e2, ⟨o', ho', hc', n', hdt'⟩, ia'⟩ := tq
  rw [e1, e2]
  refine kat_lt ho hdt ho' hdt' ?_
  have sz : decide (us.size < zs.size) = false := by
    have l1 := ia.length
    have l2 := ia'.length
    rw [Array.length_toList] at l1 l2
    exact decide_eq_false (by omega)
  rw [sz]
  exact lexSh 0 ia ia' (by omega) bp bq ⟨rfl, rfl⟩
theorem sortableSh {d : Nat} {a : Addr} {vs : List Value} {r : Value → Int} (hd : 1 ≤ d) (h0 : 0 < vs.length) (x : TupsSh st.heap d B C vs) (hr : ∀ v, v ∈ vs → ∀ ns, TS.TupInts st.heap v ns → r v = TS.code B (sh C ns)) (ha : ∀ o, st.heap.get? a = some o → o.cls ≠ .type "tuple") :
    SrtO.SortableO prog w A st a vs (ltR r) := by
  intro h2 keep
  have kp : ∀ b o, st.heap.get? b = some o → o.cls = .type "tuple" → h2.get? b = some o := fun b o e c => keep b o (fun z => by subst z; exact ha o e c) e
  have x2 : TupsSh h2 d B C vs := fun v hm => let ⟨ns, t, y⟩ := x v hm; ⟨ns, t.keeps kp, y⟩
  obtain ⟨fs, f1, f2, f3⟩ := firstsSh hd vs x2
  refine ⟨tuples' true, fun Q E hq => ?_, cmpSh x2 fun v hm ns t => ?_⟩
  · refine kat_kind (T := .type "int") f1 (by omega) (fun f hm => ?_) (by rfl) ?_
    · obtain ⟨n, t, rfl⟩ := f3 f hm
      exact Looks.now
    · rw [show (Value.type "int" != Value.type "tuple") = true from by first | decide +kernel | rfl | decide]
      exact hq
  · obtain ⟨ms, t', _⟩ := x v hm
    have e1 := (t'.keeps kp).ints
    rw [t.ints] at e1
    rw [hr v hm ms t', e1]
end
def tupI (ns : List Int) : D := .tup (ns.map D.int)
theorem rps_perm {K bx M H} {ys xs : List V} (p : ys.Perm xs) : ∀ {l : List D}, Rps K bx M H l xs → ∃ m, m.Perm l ∧ Rps K bx M H m ys := by
  induction p with
  | nil => intro l r; exact ⟨l, .refl _, r⟩
  | cons x p ih =>
    intro l r
    cases l with
    | nil => cases (show _ :: _ = [] from r)
    | cons d l =>
      obtain ⟨v, r', e, h1, h2⟩ := r
      cases e
      obtain ⟨m, pm, rm⟩ := ih h2
      exact ⟨d :: m, pm.cons d, _, _, rfl, h1, rm⟩
  | swap x y zs =>
    intro l r
    match l, r with
    | [], r => cases (show _ :: _ = [] from r)
    | [_], r =>
      obtain ⟨v, r', e, h1, h2⟩ := r
      cases e
      cases (show _ :: _ = [] from h2)
    | d1 :: d2 :: l, r =>
      obtain ⟨v, r', e, h1, v2, r2, e2, h2, h3⟩ := r
      cases e
      cases e2
      exact ⟨d2 :: d1 :: l, .swap .., _, _, rfl, h2, _, _, rfl, h1, h3⟩
  | trans p1 p2 ih1 ih2 =>
    intro l r
    obtain ⟨m, pm, rm⟩ := ih2 r
    obtain ⟨m2, pm2, rm2⟩ := ih1 rm
    exact ⟨m2, pm2.trans pm, rm2⟩
theorem rp_tupI {K bx M H} {ns : List Int} {v : V} (r : Rp K bx M H (tupI ns) v) : TupI K H v ns := by
  obtain ⟨a, xs, rfl, o, rs⟩ := r
  rw [rs.ints] at o
  exact ⟨a, rfl, o.sq⟩
theorem rps_pair {K bx M H} {R : List Int → List Int → Prop} : ∀ {l : List (List Int)} {ys : List V}, Rps K bx M H (l.map tupI) ys → ys.Pairwise (fun x y => ∀ n m, TupI K H x n → TupI K H y m → R n m) → l.Pairwise R
  | [], _, _, _ => .nil
  | n :: l, ys, r, pw => by
    obtain ⟨v, vs, rfl, h1, h2⟩ := r
    cases pw with
    | cons a b =>
      refine .cons (fun m hm => ?_) (rps_pair h2 b)
      obtain ⟨i, hi⟩ := List.mem_iff_getElem?.mp hm
      obtain ⟨w, ew, rw'⟩ := Rps.get (i := i) h2 (d := tupI m) (by rw [List.getElem?_map, hi]; rfl)
      exact a w (List.mem_of_getElem? ew) n m (rp_tupI h1) (rp_tupI rw')
theorem perm_map {f : List Int → D} {m n : List D} (p : m.Perm n) : ∀ {l : List (List Int)}, n = l.map f → ∃ k : List (List Int), k.Perm l ∧ m = k.map f := by
  induction p with
  | nil =>
    intro l e
    cases l with
    | nil => exact ⟨[], .refl _, rfl⟩
    | cons _ _ => cases e
  | cons x p ih =>
    intro l e
    cases l with
    | nil => cases e
    | cons y l =>
      rw [List.map_cons] at e
      injection e with e1 e2
      obtain ⟨k, pk, ek⟩ := ih e2
      exact ⟨y :: k, pk.cons y, by rw [List.map_cons, e1, ek]⟩
  | swap x y zs =>
    intro l e
    match l, e with
    | [], e => cases e
    | [_], e => cases e
    | a :: b :: l, e =>
      rw [List.map_cons, List.map_cons] at e
      injection e with e1 e2
      injection e2 with e2 e3
      exact ⟨b :: a :: l, .swap .., by rw [List.map_cons, List.map_cons, e1, e2, e3]⟩
  | trans p1 p2 ih1 ih2 =>
    intro l e
    obtain ⟨k, pk, ek⟩ := ih2 e
    obtain ⟨k2, pk2, ek2⟩ := ih1 ek
    exact ⟨k2, pk2.trans pk, ek2⟩
/-- sorted of a list of tuples of n ints, moved by C between 0 and B -/
def rSortSh (K : PySem.W.Frag) (d : Nat) (B C : Int) : List V → Hp → VK → Prop := fun vs H Q => ∃ (a : Addr) (xs : List V), vs = [V.ref a] ∧ SqL K H a xs ∧ (∀ x ∈ xs, ∃ ns, TupI K H x ns ∧ ns.length = d ∧ TS.Bd B (sh C ns)) ∧
  ∀ (ys : List V) (p : Addr), ys.Perm xs → ys.Pairwise (fun x y => ∀ n m, TupI K H x n → TupI K H y m → TS.code B (sh C n) ≤ TS.code B (sh C m)) → H p = none → Q (.ref p) (upd H p (.lst ys))
theorem cr_sortSh {d : Nat} {B C : Int} (hd : 1 ≤ d) : CallR X (.builtin "sorted") (rSortSh X.K d B C) := by
  intro pins s σ H vs us Q I rv0 h
  obtain ⟨a, xs, rfl, hs, hx, q⟩ := h
  obtain ⟨its, rv, hl, hz⟩ := I.list hs
  rw [Vals.ref1 rv0]
  obtain ⟨e1, e2⟩ := bkV_refs rv fun x m => by
    obtain ⟨ns, ⟨t, e, _⟩, _⟩ := hx x m
    exact ⟨t, e⟩
  have tps : TupsSh s.heap d B C its := fun v hv => by
    obtain ⟨t, rfl⟩ := e2 v hv
    have hm : V.ref t ∈ xs := by rw [e1]; exact List.mem_map.mpr ⟨_, hv, rfl⟩
    obtain ⟨ns, ⟨t', e, ht⟩, hn, hb⟩ := hx _ hm
    cases e
    exact ⟨ns, tupI_raw I ht, hn, hb⟩
  refine SrtO.sorted_ord (swoR fun v => TS.code B (sh C (TS.intsOf s.heap v))) hl.isList (by rw [← rv.length]; exact hz) (fun h2 h₁ a' ha kk => ?_) fun out h1 h2 => ?_
  · have kp : ∀ b o, s.heap.get? b = some o → o.cls = .type "tuple" → h₁.get? b = some o := fun b o e _ => (kk b o e).2
    refine sortableSh (st := { s with heap := h₁ }) (B := B) (C := C) hd (by omega) (fun v hm => let ⟨ns, t, y⟩ := tps v hm; ⟨ns, t.keeps kp, y⟩) (fun v hm ns t => ?_) fun o e => ?_
    · obtain ⟨ms, t', _⟩ := tps v hm
      have e3 := (t'.keeps kp).ints
      rw [t.ints] at e3
      show TS.code B (sh C (TS.intsOf s.heap v)) = _
      rw [t'.ints, e3]
    · have e' := e.symm.trans ha
      cases e'
      intro c
      exact absurd (Value.type.inj c) (by decide)
  · have h3 : ∀ u ∈ out, ∃ a, u = Value.ref a := fun u hu => e2 u (h2.perm.mem_iff.mp hu)
    obtain ⟨n, hn⟩ := PyProof.Rows.sortedAll_at s.heap its out.toArray
    have hp : (out.map bkV).Perm xs := by rw [e1]; exact h2.perm.map bkV
    refine ⟨.ref _, upd H (s.heap.objs.size + 1) (.lst (out.map bkV)), I.laid (t' := s.toks) (fun b o e => PyProof.Rows.sortedAll_old e) (Nat.le_succ _) ⟨?_, out, n, bkV_vals h3, hn⟩, rfl, q _ _ hp ?_ (I.hok.fresh (Nat.le_succ _))⟩
    · rw [hp.length_eq]; exact hz
    · rw [List.pairwise_map]
      refine List.Pairwise.imp (fun {u v} huv n m hn hm => ?_) h1
      obtain ⟨t, et, ht⟩ := hn
      obtain ⟨t', et', ht'⟩ := hm
      have i1 : TS.intsOf s.heap u = n := by rw [bkV_ref et]; exact (tupI_raw I ht).ints
      have i2 : TS.intsOf s.heap v = m := by rw [bkV_ref et']; exact (tupI_raw I ht').ints
      have := of_decide_eq_false huv
      have z : ¬ TS.code B (sh C (TS.intsOf s.heap v)) < TS.code B (sh C (TS.intsOf s.heap u)) := this
      rw [i1, i2] at z
      omega
def dSortSh (n : Nat) (B C : Int) : DRC := fun ds μ Q => ∃ (d : D) (l : List (List Int)), ds = [d] ∧ lstOf μ d = some (l.map tupI) ∧ (∀ x ∈ l, x.length = n ∧ TS.Bd B (sh C x)) ∧ ∀ m : List (List Int), m.Perm l → m.Pairwise (fun x y => TS.code B (sh C x) ≤ TS.code B (sh C y)) → Q (.lst (m.map tupI)) μ
theorem cd_sortSh {n : Nat} {B C : Int} (hn : 1 ≤ n) : CD X (.builtin "sorted") (dSortSh n B C) := by
  refine ⟨_, cr_sortSh (B := B) (C := C) hn, fun G M σ H σd μ xs ds Q R hK S r q k => ?_⟩
  obtain ⟨d, l, rfl, e, hb, q⟩ := q
  obtain ⟨v, rfl, r1⟩ := rps1 r
  obtain ⟨a, xs, rfl, h, r'⟩ := sq_lst S r1 e
  rw [hK] at h
  refine ⟨a, xs, rfl, h, fun x hx => ?_, fun ys p perm pw hp => ?_⟩
  · obtain ⟨i, hi⟩ := List.mem_iff_getElem?.mp hx
    obtain ⟨d', ed, rd⟩ := r'.get' hi
    rw [List.getElem?_map] at ed
    obtain ⟨ns, en, rfl⟩ := Option.map_eq_some_iff.mp ed
    refine ⟨ns, ?_, hb ns (List.mem_of_getElem? en)⟩
    rw [← hK]; exact rp_tupI rd
  · obtain ⟨m, pm, rm⟩ := rps_perm perm r'
    obtain ⟨k', pk, rfl⟩ := perm_map pm rfl
    have pw' := rps_pair rm (by rw [hK]; exact pw)
    exact k _ _ _ _ (S.new hp) (S.newL hp rm) (q k' pk pw')
theorem e_sortSh {n : Nat} {B C : Int} {d : D} {l : List (List Int)} {μ : Mem} {Q : D → Mem → Prop} (h1 : lstOf μ d = some (l.map tupI)) (h3 : ∀ x ∈ l, x.length = n ∧ TS.Bd B (sh C x)) (h : ∀ m : List (List Int), m.Perm l → m.Pairwise (fun x y => TS.code B (sh C x) ≤ TS.code B (sh C y)) → Q (.lst (m.map tupI)) μ) : dSortSh n B C [d] μ Q := ⟨d, l, rfl, h1, h3, h⟩
end
end DL

set_option maxRecDepth 100000
set_option maxHeartbeats 3200000
/-! sorted(set(list of ints)), fewer than 4,095 of them -/
namespace DL
open PySem PySem.Spec L2 PyProof.Rows
section
variable {P : Program} {w : World} {A : Around} {E : Value → Shared → Prop} {s : Shared}
/-- the object of a new set -/
def setZ (w : World) : Obj := { cls := .type "set", dict := none, data := .set #[] 0 (.fresh 0 0 (!w.params.followText "set-order")) }
/-- what is found behind set(list): all members, and nothing else of the heap is changed -/
def MadeSet (w : World) (s : Shared) (ns : List Int) (s2 : Shared) : Prop := ∃ h' tk c, s2 = { s with heap := h', toks := tk } ∧ SetR w h' s.heap.objs.size (fun j => decide (j ∈ ns)) c ∧ c ≤ ns.length ∧ (∀ b o, s.heap.get? b = some o → h'.get? b = some o)
theorem ints_idx {items : Array Value} {ns : List Int} (hi : IntsAre items.toList ns) (i : Nat) (v : Value) (hv : items[i]? = some v) : ∃ k t, ns[i]? = some k ∧ v = .int k t := by
  have q := IntsAre.length hi
  rw [Array.length_toList] at q
  have hn : i < ns.length := by rw [← q]; exact (Array.getElem?_eq_some_iff.mp hv).1
  obtain ⟨t, e⟩ := IntsAre.int_at hi i v (by rw [Array.getElem?_toList]; exact hv)
  rw [List.getD_eq_getElem?_getD, List.getElem?_eq_getElem hn] at e
  exact ⟨ns[i], t, List.getElem?_eq_getElem hn, e⟩
/-- the filling of a new set from a list -/
theorem fill_list {l : Addr} {items : Array Value} {ns : List Int} (hh : A.handled = none) (hl : s.heap.IsList l items) (hi : IntsAre items.toList ns) (hb : ns.length + 1 < scanBound) :
    codeAny (model P w) A (.call (.builtin "set.__init__") ⟨[.ref s.heap.objs.size, .ref l], []⟩) (wants (fun r s2 => r = .none ∧ MadeSet w s ns s2) E) { s with heap := s.heap.push (setZ w) } := by
  have hz : items.size = ns.length := by
    have q := IntsAre.length hi
    rw [Array.length_toList] at q
    exact q
  have hS : (s.heap.push (setZ w)).get? s.heap.objs.size = some (setZ w) := Heap.get?_push_size _ rfl
  have hT : Shared.TypeIs { s with heap := s.heap.push (setZ w) } (.ref s.heap.objs.size) "set" := ⟨_, hS, rfl⟩
  refine codeAny_call_builtin F.called_set.init.plain F.entry_set_init (check_set_init_1 hT ?_)
  obtain ⟨ol, hol, hcl, nl, hdl⟩ := hl
  obtain ⟨ocls, odict, odata, oslots⟩ := ol
  simp only at hcl hdl
  subst hcl hdl
  have hl1 : (s.heap.push (setZ w)).IsList l items := ⟨_, Heap.get?_push_of_some _ hol, rfl, nl, rfl⟩
  have hol' := Heap.get?_push_of_some (setZ w) hol
  have k1 := F.sub_list_set
  have k2 := F.sub_list_frozenset
  have k3 : (Value.type "list" == Value.type "dict") = false := by decide
  have hlS : l < s.heap.objs.size := Heap.lt_size hol
  have hz1 : (s.heap.push (setZ w)).objs.size = s.heap.objs.size + 1 := Heap.size_push ..
  unfold Builtin.«set.__init__» noKeywords Builtin.Frozenset.updateFrom
  generalize hPI : pyIter = PI
  wp_walk
  subst hPI
  refine wpAny_pyIter_list hl1 ?_
  refine wpAny_bind (wpAny_runValue ?_)
  have hh3 : A.in1.in1.handled = none := by simp [hh]
  have hne : l ≠ (s.heap.push (setZ w)).objs.size := by rw [hz1]; exact Nat.ne_of_lt (Nat.lt_succ_of_lt hlS)
  have hSf : s.heap.objs.size ∉ [(s.heap.push (setZ w)).objs.size, l] := by
    rw [hz1]
    simp only [List.mem_cons, List.not_mem_nil, or_false, not_or]
    exact ⟨Nat.ne_of_lt (Nat.lt_succ_self _), Nat.ne_of_gt hlS⟩
  refine set_update_ints ((Walks.list hh3 _ l hne items).toS) s.heap.objs.size hSf ns hz hb (ints_idx hi) (items.size - 0) 0 _ (by omega) (Nat.zero_le _)
    ?hSt ?hS0 ?hR
  case hSt => exact ⟨⟨_, Heap.get?_push_size _ rfl, rfl, rfl⟩, (hl1.push _)⟩
  case hS0 => exact ⟨0, Nat.le_refl 0, setR_new_at (Heap.get?_push_of_some _ hS)⟩
  intro s' c hm hc hR
  obtain ⟨h', g', d', tk, os'⟩ := s'
  have eg : g' = s.gens := hm.gens
  have ed : d' = s.drawn := hm.drawn
  have eo : os' = s.os := hm.os
  subst eg ed eo
  show wpAny _ _ _ _ _ _
  refine wpAny_pure ?_
  show wpAny _ _ (ret Value.none) _ _ _
  rw [hz] at hc
  refine wpAny_pure ⟨rfl, h', tk, c, rfl, hR, hc, fun b o e => ?_⟩
  have hb0 := Heap.lt_size e
  refine hm.heap b o ?_ (Heap.get?_push_of_some _ (Heap.get?_push_of_some _ e))
  rw [hz1]
  simp only [List.mem_cons, List.not_mem_nil, or_false, not_or]
  exact ⟨Nat.ne_of_lt hb0, Nat.ne_of_lt (Nat.lt_succ_of_lt hb0)⟩
/-- set(l), l a list of ints -/
theorem call_set_ints {l : Addr} {items : Array Value} {ns : List Int} {Q : Value → Shared → Prop} (hh : A.handled = none) (hl : s.heap.IsList l items) (hi : IntsAre items.toList ns) (hb : ns.length + 1 < scanBound)
    (h : ∀ s2, MadeSet w s ns s2 → Q (.ref s.heap.objs.size) s2) : wpAny (model P w) A (call (.type "set") [.ref l]) Q E s := by
  obtain ⟨c, tl, hmro⟩ := F.called_set.mro
  have hmade := F.called_set.made
  have hsub := F.called_set.sub
  have g1 := F.called_set.notType
  have g2 := F.called_set.canCreate
  have g3 := F.typeCall_set_1 (.ref l)
  refine wpAny_call (codeAny_of_tree ?_)
  show wpAny _ _ (callAny (.type "set") _) _ _ _
  refine wpAny_pure ⟨Code.quiet_builtin _ (by decide +kernel), codeAny_builtin F.entry_type_call ?_⟩
  rw [Around.under_plain (weight_type_call_type "set" [.ref l] []) rfl]
  repeat (any_goals (first | assumption | wp_step))
  refine codeAny_mono (code_set_led1 (.ref l) (E := E) (Q₁ := fun obj s1 => obj = .ref s.heap.objs.size ∧ s1 = { s with heap := s.heap.push (setZ w) }) ⟨rfl, rfl⟩) fun r s1 hr => ?_
  match r, hr with
  | .error e, hr => exact hr
  | .ok (.ret obj), hr =>
    obtain ⟨rfl, rfl⟩ := hr
    have hS : (s.heap.push (setZ w)).get? s.heap.objs.size = some (setZ w) := Heap.get?_push_size _ rfl
    have hT : Shared.TypeIs { s with heap := s.heap.push (setZ w) } (.ref s.heap.objs.size) "set" := ⟨_, hS, rfl⟩
    have g4 := F.called_set.init.lookup
    have g5 := F.called_set.init.bind (.ref s.heap.objs.size)
    repeat (any_goals (first | assumption | wp_step))
    refine codeAny_mono (fill_list (E := E) (by simpa using hh) hl hi hb) fun r2 s2 hr2 => ?_
    match r2, hr2 with
    | .error e, hr2 => exact hr2
    | .ok (.ret r), hr2 =>
      obtain ⟨rfl, m⟩ := hr2
      repeat (any_goals (first | assumption | wp_step))
      exact h _ m
/-- sorted of a set of ints, any number of them -/
theorem sorted_set_any {a : Addr} {S : Int → Bool} {n : Nat} {Q : Value → Shared → Prop} (R : SetR w s.heap a S n) (hh : A.handled = none)
    (hQ : ∀ s' p (out : Array Value) (c : Nat) (ns : List Int), (∀ b o, s.heap.get? b = some o → s'.heap.get? b = some o) → s'.gens = s.gens → s'.os = s.os → s.heap.objs.size ≤ p →
      s'.heap.get? p = some (seqObj "list" out c) → IntsAre out.toList ns → ns.length < scanBound → ns.Pairwise (· < ·) → (∀ k, k ∈ ns ↔ S k = true) → Q (.ref p) s') :
    wpAny (model P w) A (call (.builtin "sorted") [.ref a]) Q E s := by
  obtain ⟨o, es, ep, t, ho, hex, hd, g, nd, hm, hb, hf, hn, hr, hl⟩ := R
  refine Calls.call_function_entry kind_sorted plain_sorted entry_sorted (args_sorted1 _) ?_
  unfold Builtin.«sorted»
  refine wpAny_bind (m := checkCount "sorted" 1 1 _) (wpAny_pure ?_)
  refine wpAny_bind (collect_set (A := A.in1) hh ⟨o, ho, hex.1, hd⟩ hf hb hr hl fun s1 vs k1 hz g1 o1 pm => ?_)
  have hvl : vs.length = es.size := by rw [pm.length_eq, List.length_map, Array.length_toList]
  have hsl : vs.length ≤ sizeLine := by
    rw [hvl, sizeLine_eq]
    unfold scanBound at hb
    omega
  have hI : IntsAre vs (vs.map Builtin.Re.reRawOf) := ints_of vs fun v hv => by
    obtain ⟨e, he, q⟩ := List.mem_map.mp (pm.mem_iff.mp hv)
    obtain ⟨k, tk, h1, _⟩ := g e he
    exact ⟨k, tk, by rw [← q]; exact h1⟩
  have pk : (vs.map Builtin.Re.reRawOf).Perm (es.toList.map keyOf) := by
    have q := pm.map Builtin.Re.reRawOf
    rw [List.map_map] at q
    exact q
  refine wpAny_bind (wpAny_newList ?_ hsl)
  have hoL : (s1.heap.push (seqObj "list" vs.toArray 0)).get? s1.heap.objs.size = some (seqObj "list" vs.toArray 0) := Heap.get?_push_size _ rfl
  refine wpAny_bind (wpAny_holding (wpAny_call_entry slot_list_sort ⟨_, hoL, rfl⟩ entry_list_sort (SrtO.list_sort_ord SrtO.swo_int hoL hsl (fun h2 => SrtO.ints_sortable hI h2) fun out h1 h2 => ⟨_, rfl, ?_⟩) (args_list_sort _)))
  obtain ⟨b1, b2, b3⟩ := SrtO.ints_out hI h1 h2
  obtain ⟨c, hc⟩ := sortedHeap_at (vs := vs) (out := out.toArray) hoL
  have pn : (out.map SrtO.iv).Perm (es.toList.map keyOf) := b2.trans pk
  refine wpAny_pure ⟨_, rfl, hQ _ s1.heap.objs.size out.toArray c (out.map SrtO.iv) (fun b u e => ?_) g1 o1 hz hc (by simpa using b1) ?_ (lt_of_le_nodup _ b3 (pn.nodup_iff.mpr nd)) fun k => by rw [pn.mem_iff, ← hm k]⟩
  · have q := k1 b u e
    have hlt := Heap.lt_size q
    show (sortedHeap (s1.heap.push (seqObj "list" vs.toArray 0)) s1.heap.objs.size vs out.toArray).get? b = some u
    rw [sortedHeap_old (Nat.ne_of_lt hlt) (by rw [size_push']; exact Nat.lt_succ_of_lt hlt)]
    exact Heap.get?_push_of_some _ q
  · rw [pn.length_eq, List.length_map, Array.length_toList]; exact hb
end
section
variable {X : Cx}
/-- sorted(set(e)), e a list of ints -/
def tSortSet (K : PySem.W.Frag) (ta : TE) : TE := fun σ H Q => ta σ H fun x H1 => ∃ (l : Addr) (ns : List Int), x = .ref l ∧ SqL K H1 l (ns.map V.int) ∧ ns.length + 1 < scanBound ∧
  ∀ (ms : List Int) (p : Addr), ms.Pairwise (· < ·) → (∀ k, k ∈ ms ↔ k ∈ ns) → ms.length < 5000 → H1 p = none → Q (.ref p) (upd H1 p (.lst (ms.map V.int)))
theorem pe_sortSet {a : Expr} {ta : TE} {p p2 q pos : Pos} (hc : X.calm = true) (hg : Gl X "sorted") (hm : X.mg "sorted" = none) (hg2 : Gl X "set") (hm2 : X.mg "set" = none) (ha : PE X a ta)
    (na : starEach [a] X.env = (false, eval a X.env) :: starEach [] X.env := by rfl) : PE X (.Call (.Name "sorted" p) [.Call (.Name "set" p2) [a] [] q] [] pos) (tSortSet X.K ta) := by
  refine ⟨fun pins s σ H Q I h => ?_⟩
  refine Call_ (ld_blt I hg hm (u := .builtin "sorted") (by rfl) ?_)
  refine PyProof.Rows.callWith_builtin1 (PyProof.Rows.args_cons ?_ rfl) rfl rfl
  refine Call_ (ld_blt I hg2 hm2 (u := .type "set") (by rfl) ?_)
  refine PyProof.Rows.callWith_type1 (PyProof.Rows.args_cons (thn (ha.run pins s σ H _ I h) fun v s1 ⟨x, H1, I1, r1, q1⟩ => PyProof.Rows.args_nil ?_) na) na rfl
  obtain ⟨l, ns, rfl, hs, hb, q⟩ := q1
  cases r1
  obtain ⟨its, rv, pl, hz⟩ := I1.list hs
  refine call_set_ints (I1.ok.hd hc) pl.isList (by simpa using rv.ints) hb fun s2 m => PyProof.Rows.args_nil ?_
  obtain ⟨h', tk, c, rfl, R, _, hk⟩ := m
  have I2 : Inv X pins σ H1 { s1 with heap := h', toks := tk } := I1.kept fun b o e => hk b o e
  refine sorted_set_any (s := { s1 with heap := h', toks := tk }) R (I1.ok.hd hc) fun s' p out c ms k g o hp hg hi hlt hpw hm => ?_
  have hlen : (ms.map V.int).length ≤ sizeLine := by
    rw [List.length_map, sizeLine_eq]
    unfold scanBound at hlt
    omega
  have hn : H1 p = none := I2.hok.fresh hp
  have J : Inv X pins σ (upd H1 p (.lst (ms.map V.int))) { ({ s1 with heap := h', toks := tk } : Shared) with heap := s'.heap, gens := s'.gens, drawn := s'.drawn, toks := s'.toks } :=
    I2.call (ch := []) (Un.laid k hp hn) (I2.hok.laid k hp ⟨hlen, out.toList, c, vals_of_ints hi, hg⟩) (by rw [g]; exact I2.bare) (fun _ z => nomatch z)
  have e : s' = { ({ s1 with heap := h', toks := tk } : Shared) with heap := s'.heap, gens := s'.gens, drawn := s'.drawn, toks := s'.toks } := by
    cases s'
    cases s1
    cases o
    rfl
  rw [e]
  exact ⟨.ref p, _, J, rfl, q ms p hpw (fun k => by rw [hm k]; exact decide_eq_true_iff) (by unfold scanBound at hlt; omega) hn⟩
/-- sorted(set(e)), e a list of ints -/
def dSortSet (t : DTE) : DTE := fun σ μ Q => t σ μ fun d μ1 => ∃ ns : List Int, lstOf μ1 d = some (ns.map D.int) ∧ ns.length < 4000 ∧ ∀ ms : List Int, ms.Pairwise (· < ·) → (∀ k, k ∈ ms ↔ k ∈ ns) → ms.length < 5000 → Q (.lst (ms.map D.int)) μ1
theorem de_sortSet {a : Expr} {t : DTE} {p p2 q pos : Pos} (hc : X.calm = true) (hg : Gl X "sorted") (hm : X.mg "sorted" = none) (hg2 : Gl X "set") (hm2 : X.mg "set" = none) (ha : DE X a t)
    (na : starEach [a] X.env = (false, eval a X.env) :: starEach [] X.env := by rfl) : DE X (.Call (.Name "sorted" p) [.Call (.Name "set" p2) [a] [] q] [] pos) (dSortSet t) := by
  obtain ⟨te, p, h⟩ := ha.ex
  refine ⟨_, pe_sortSet hc hg hm hg2 hm2 p na, fun G M σ H σd μ Q R hK S q k => ?_⟩
  refine h G M σ H σd μ _ _ hK S q fun v H1 d μ1 S1 r1 q1 => ?_
  obtain ⟨ns, e, hl, q1⟩ := q1
  obtain ⟨a, xs, rfl, hx, r'⟩ := sq_lst S1 r1 e
  rw [r'.ints] at hx
  rw [hK] at hx
  refine ⟨a, ns, rfl, hx, by unfold scanBound; omega, fun ms p pw hmem hlen hp => ?_⟩
  exact k _ _ _ _ (S1.new hp) (S1.newL hp (Rps.of_ints ms)) (q1 ms pw hmem hlen)
theorem e_sortSet {t : DTE} {σ : DSt} {μ : Mem} {Q : D → Mem → Prop} (h : t σ μ fun d μ1 => ∃ ns : List Int, lstOf μ1 d = some (ns.map D.int) ∧ ns.length < 4000 ∧ ∀ ms : List Int, ms.Pairwise (· < ·) → (∀ k, k ∈ ms ↔ k ∈ ns) → ms.length < 5000 → Q (.lst (ms.map D.int)) μ1) : dSortSet t σ μ Q := h
end
end DL

set_option maxRecDepth 100000
/-! x[i], x a list of one's own that goes on growing -/
namespace DL
open PySem PySem.Spec L2
section
variable {X : Cx} {pos : Pos}
def dIxOwn (n : Nat) (ti : DTE) : DTE := fun σd μ Q => ∃ l : List D, σd[n]? = some (some (.own l)) ∧ ti σd μ fun di μ1 => ∃ i d, di = .int i ∧ atI l i = some d ∧ Q d μ1
theorem de_ixOwn {o i : Expr} {n : Nat} {ti : DTE} (ho : PE X o (tVar n)) (hi : DE X i ti) (hs : PlainIx i := by exact fun _ _ => rfl) : DE X (.Subscript o i pos) (dIxOwn n ti) := by
  obtain ⟨te', p', h'⟩ := hi.ex
  refine ⟨_, pe_ix ix_list ho p' hs, fun G M σ H σd μ Q R hK S q k => ?_⟩
  obtain ⟨l, e1, q⟩ := q
  obtain ⟨v1, ev, pp, xs, rfl, mp, h0, hh, rs⟩ := S.slot _ _ e1
  refine ⟨_, ev, ?_⟩
  refine h' G M σ H σd μ _ _ hK S q fun v2 H2 d2 μ2 S2 r2 q2 => ?_
  obtain ⟨i, d, rfl, e2, q⟩ := q2
  obtain ⟨v', ev', p'', xs', e3, mp', h0', hh', rs'⟩ := S2.slot _ _ e1
  rw [ev] at ev'; cases ev'; cases e3
  obtain ⟨v, e4, rv⟩ := rs'.atI e2
  exact ⟨pp, xs', i, v, rfl, r2, .inl (.inl hh'), e4, k _ _ _ _ S2 rv q⟩
theorem e_ixOwn {n : Nat} {l : List D} {ti : DTE} {σ : DSt} {μ : Mem} {Q : D → Mem → Prop} (h1 : σ[n]? = some (some (.own l))) (h : ti σ μ fun di μ1 => ∃ i d, di = .int i ∧ atI l i = some d ∧ Q d μ1) : dIxOwn n ti σ μ Q := ⟨l, h1, h⟩
end
end DL

set_option maxRecDepth 100000
namespace DL
open PySem PySem.Spec L2
/-! ### a comprehension of two `for`, without tests -/
def dLc2Loop (g : DTG) (ti1 : DTI) (g1 : DTG) (te : DTE) (vs1 : List Nat) (σw : DSt) : List D → List D → Mem → (List D → Mem → Prop) → Prop
  | [], acc, μ, Q => Q acc μ
  | x :: r, acc, μ, Q => g x σw μ fun σ2 μ2 => ti1 σ2 μ2 fun items1 μ3 => dLcLoop g1 dYes te (wipeD σ2 vs1) items1 acc μ3 fun acc' μ4 => dLc2Loop g ti1 g1 te vs1 σw r acc' μ4 Q
def dLc2 (ti : DTI) (g : DTG) (ti1 : DTI) (g1 : DTG) (te : DTE) (vs vs1 : List Nat) : DTE := fun σd μ Q => ti σd μ fun items μ1 => dLc2Loop g ti1 g1 te vs1 (hideD σd vs) items [] μ1 fun acc μ2 => Q (.lst acc) μ2
def liftI (K : PySem.W.Frag) (t : DTI) : TI := fun σ H R => ∃ (G : Gm) (M : Addr → Prop) (σd : DSt) (μ : Mem) (Q : List D → Mem → Prop), G.K = K ∧ SR G M σ H σd μ ∧ t σd μ Q ∧
  ∀ (F : List (V × D)) J H' items μ', SR (G.pinL F) M σ H' σd μ' → ItOk G.K G.bx F J items → Q items μ' → R J H'
theorem DI.lift {X : Cx} {tg e : Expr} {t : DTI} (h : DI X tg e t) : PI X tg e (liftI X.K t) := by
  obtain ⟨te, p, h⟩ := h.ex
  refine ⟨fun pins s σ H R I hw => p.run pins s σ H R I ?_⟩
  obtain ⟨G, M, σd, μ, Q, hK, S, q, k⟩ := hw
  exact h G M σ H σd μ Q R hK S q k
section
variable {K : PySem.W.Frag} {bx : List Addr} {M : Addr → Prop} {H H0 H1 : Hp} {Fr : List (V × D)} {σ σ1 : St} {σd σd1 : DSt} {μ μ1 : Mem} {Dn : Addr} {o : HO}
theorem SR.noOwn (S : SR ⟨K, bx, M, H0, Fr⟩ M σ H σd μ) {i : Nat} {l : List D} (e : σd[i]? = some (some (.own l))) : False := by
  obtain ⟨v, _, p, xs, _, m, h0, _⟩ := S.slot i _ e
  obtain ⟨o, e⟩ := S.m0t p m
  have h0 : H0 p = none := h0
  have e : H0 p = some o := e
  rw [h0] at e; cases e
theorem SR.rebase (S : SR ⟨K, bx, M, H0, Fr⟩ M σ H σd μ) : SR ⟨K, bx, M, H, Fr⟩ M σ H σd μ := by
  refine ⟨S.len, fun i d e => ?_, S.dist, S.blen, S.box, fun _ _ _ e => e, S.m0, S.fr, S.mt, S.nd, S.bm, S.mt⟩
  obtain ⟨v, e1, r⟩ := S.slot i d e
  refine ⟨v, e1, ?_⟩
  cases d with
  | own l => exact (S.noOwn e).elim
  | _ => exact r
theorem SR.putD (S : SR ⟨K, bx, M, H0, Fr⟩ M σ H σd μ) (hM : M Dn) (nb : Dn ∉ bx) : SR ⟨K, bx, M, upd H Dn o, Fr⟩ M σ (upd H Dn o) σd μ := by
  have kDn : Kp M M H (upd H Dn o) := fun a u m e => ⟨by rw [upd_ne (fun z => m (by rw [z]; exact hM))]; exact e, m⟩
  have mt : ∀ a, M a → ∃ u, upd H Dn o a = some u := fun a m => by
    by_cases z : a = Dn
    · exact ⟨o, by rw [z]; exact upd_same⟩
    · obtain ⟨u, e⟩ := S.mt a m
      exact ⟨u, by rw [upd_ne z]; exact e⟩
  refine ⟨S.len, fun i d e => ?_, S.dist, S.blen, fun i a l e1 e2 => ?_, fun _ _ _ e => e, S.m0, fun q hq => Rp.stay kDn _ _ (S.fr q hq), mt, S.nd, S.bm, mt⟩
  · obtain ⟨v, e1, r⟩ := S.slot i d e
    refine ⟨v, e1, ?_⟩
    cases d with
    | own l => exact (S.noOwn e).elim
    | _ => exact Rp.stay kDn _ _ r
  · obtain ⟨xs, h1, h2⟩ := S.box i a l e1 e2
    exact ⟨xs, by rw [upd_ne (fun z => nb (by rw [← z]; exact List.mem_of_getElem? e1))]; exact h1, Rps.stay kDn _ _ h2⟩
/-- an earlier state in a later heap -/
theorem SR.mix (S : SR ⟨K, bx, M, H0, Fr⟩ M σ H0 σd μ) (S' : SR ⟨K, bx, M, H0, Fr⟩ M σ1 H σd1 μ1) : SR ⟨K, bx, M, H0, Fr⟩ M σ H σd μ1 := by
  have k : Kp M M H0 H := fun a u m e => ⟨S'.keep a u (fun z => m (S.m0 a (S.bm a z))) e, m⟩
  refine ⟨S.len, fun i d e => ?_, S.dist, S'.blen, S'.box, S'.keep, S.m0, S'.fr, S'.mt, S.nd, S.bm, S.m0t⟩
  obtain ⟨v, e1, r⟩ := S.slot i d e
  refine ⟨v, e1, ?_⟩
  cases d with
  | own l => exact (S.noOwn e).elim
  | _ => exact Rp.stay k _ _ r
theorem SR.wipeS {G : Gm} {M : Addr → Prop} (S : SR G M σ H σd μ) (vs : List Nat) : SR G M (wipe σ vs) H (wipeD σd vs) μ := by
  refine ⟨by rw [wipe_length, wipeD_len]; exact S.len, fun i d e => ?_, fun i j p l l' e1 e2 a b => ?_, S.blen, S.box, S.keep, S.m0, S.fr, S.mt, S.nd, S.bm, S.m0t⟩
  · obtain ⟨e1, e2⟩ := wipeD_some e
    obtain ⟨v, e3, r⟩ := S.slot i d e1
    exact ⟨v, by rw [wipe_at e2]; exact e3, r⟩
  · obtain ⟨e1, f1⟩ := wipeD_some e1
    obtain ⟨e2, f2⟩ := wipeD_some e2
    rw [wipe_at f1] at a
    rw [wipe_at f2] at b
    exact S.dist i j p l l' e1 e2 a b
end
section
variable {X : Cx} {elt tg iter tg1 iter1 : Expr} {scope : Scope} {own : List (Str × Nat)} {vs1 : List Nat} {pos : Pos} {ti ti1 : DTI} {g' g1' : TG} {g g1 : DTG} {te : DTE}
theorem lc2_snd {wi : TI} (hi : ∀ (G : Gm) (M : Addr → Prop) (σ : St) (H : Hp) (σd : DSt) (μ : Mem) (Q : List D → Mem → Prop) (R : It → Hp → Prop), G.K = X.K → SR G M σ H σd μ → ti σd μ Q →
      (∀ (F : List (V × D)) J H' items μ', SR (G.pinL F) M σ H' σd μ' → ItOk G.K G.bx F J items → Q items μ' → R J H') → wi σ H R) (hg : CG X.K (own.map (·.2)) g' g) (hg1 : CG X.K vs1 g1' g1)
    (G : Gm) (M : Addr → Prop) (σ : St) (H : Hp) (σd : DSt) (μ : Mem) (Q : D → Mem → Prop) (R : VK) (hK : G.K = X.K) (S : SR G M σ H σd μ) (hq : dLc2 ti g ti1 g1 te (own.map (·.2)) vs1 σd μ Q)
    (k : ∀ v H' d μ', SR G M σ H' σd μ' → Rp G.K G.bx M H' d v → Q d μ' → R v H') : tLc2 wi g' tYes (liftI X.K ti1) g1' tYes (liftE X.K te) (own.map (·.2)) vs1 σ H R := by
  refine hi G M σ H σd μ _ _ hK S hq fun F J H1 items μ1 S1 ok q1 => ?_
  intro Dn hn
  have nM : ¬ M Dn := fun m => by obtain ⟨o, e⟩ := S1.mt Dn m; rw [hn] at e; cases e
  have nb : Dn ∉ G.bx := fun z => nM (S1.m0 Dn (S1.bm Dn z))
  have kD : Kp M (fun a => M a ∨ a = Dn) H1 H1 := fun a o m e => ⟨e, fun z => z.elim m fun z => by rw [z, hn] at e; cases e⟩
  have kDn : ∀ {H2 : Hp} {o : HO}, Kp (fun a => M a ∨ a = Dn) (fun a => M a ∨ a = Dn) H2 (upd H2 Dn o) := fun {H2 o} a u m e => ⟨by rw [upd_ne (fun z => m (.inr z))]; exact e, m⟩
  have bxne : ∀ {i : Nat} {a : Addr}, G.bx[i]? = some a → a ≠ Dn := fun {i a} e z => nb (by rw [← z]; exact List.mem_of_getElem? e)
  refine ⟨fun i m H2 => m = items.length - i ∧ i ≤ items.length ∧ ∃ μ2 acc xs, Aft G.K G.bx (fun a => M a ∨ a = Dn) H1 H2 μ2 ∧ H2 Dn = some (.lst xs) ∧ Rps G.K G.bx (fun a => M a ∨ a = Dn) H2 acc xs ∧
      dLc2Loop g ti1 g1 te vs1 (hideD σd (own.map (·.2))) (items.drop i) acc μ2 fun acc μ2 => Q (.lst acc) μ2, ⟨items.length, rfl, Nat.zero_le _, μ1, [], [], ?_, upd_same, rfl, q1⟩, ?_⟩
  · refine ⟨fun a o _ e => by rw [upd_ne (ne_of_none e hn)]; exact e, S1.blen, fun i a l e1 e2 => ?_⟩
    obtain ⟨ys, h1, h2⟩ := S1.box i a l e1 e2
    exact ⟨ys, by rw [upd_ne (bxne e1)]; exact h1, Rps.stay kDn _ _ (Rps.stay kD _ _ h2)⟩
  · rintro i m H2 ⟨rfl, hi, μ2, acc, xs, A, hD, rs, q2⟩
    have S2 := S1.sub (own.map (·.2)) A hn hD
    have mF : ∀ q ∈ F, q ∈ (G.pinL F).Fr := fun q hq => List.mem_append_left _ hq
    by_cases hlt : i < items.length
    · refine .inr ⟨ok.go ⟨G.K, G.bx, fun a => M a ∨ a = Dn, H2, (G.pinL F).Fr⟩ _ _ H2 _ μ2 i rfl rfl mF S2 hlt, fun H' => ∃ μ2 acc xs, Aft G.K G.bx (fun a => M a ∨ a = Dn) H1 H' μ2 ∧ H' Dn = some (.lst xs) ∧ Rps G.K G.bx (fun a => M a ∨ a = Dn) H' acc xs ∧
          dLc2Loop g ti1 g1 te vs1 (hideD σd (own.map (·.2))) (items.drop (i + 1)) acc μ2 fun acc μ2 => Q (.lst acc) μ2, ?_, ?_⟩
      · rintro H3 ⟨μ3, acc3, xs3, h1, h2, h3, h4⟩
        exact ⟨items.length - (i + 1), by omega, rfl, hlt, μ3, acc3, xs3, h1, h2, h3, h4⟩
      · intro x H3 y
        rw [List.drop_eq_getElem_cons hlt] at q2
        obtain ⟨S3, r3⟩ := ok.yld ⟨G.K, G.bx, fun a => M a ∨ a = Dn, H2, (G.pinL F).Fr⟩ _ _ H2 _ μ2 i x H3 items[i] rfl rfl mF S2 (List.getElem?_eq_getElem hlt) y
        refine hg ⟨G.K, G.bx, fun a => M a ∨ a = Dn, H2, (G.pinL F).Fr⟩ _ _ H3 _ μ2 items[i] x _ _ hK S3 r3 q2 fun σ4 H4 σd4 μ4 S4 w4 q4 => ?_
        refine ⟨w4.trans (wipe_wipe σ _), ?_⟩
        simp only [tYes, if_true]
        refine ⟨⟨G.K, G.bx, fun a => M a ∨ a = Dn, H2, (G.pinL F).Fr⟩, _, σd4, μ4, _, hK, S4, q4, fun F1 J1 H5 items1 μ5 S5 ok1 q5 => ?_⟩
        have S5' : SR ⟨G.K, G.bx, fun a => M a ∨ a = Dn, H2, F1 ++ (G.pinL F).Fr⟩ (fun a => M a ∨ a = Dn) σ4 H5 σd4 μ5 := S5
        clear S5
        have mF1 : ∀ q ∈ F1, q ∈ F1 ++ (G.pinL F).Fr := fun q hq => List.mem_append_left _ hq
        generalize F1 ++ (G.pinL F).Fr = Fr at *
        refine ⟨fun j m H6 => m = items1.length - j ∧ j ≤ items1.length ∧ ∃ μ6 acc xs, SR ⟨G.K, G.bx, fun a => M a ∨ a = Dn, H6, Fr⟩ (fun a => M a ∨ a = Dn) σ4 H6 σd4 μ6 ∧ Aft G.K G.bx (fun a => M a ∨ a = Dn) H1 H6 μ6 ∧ H6 Dn = some (.lst xs) ∧ Rps G.K G.bx (fun a => M a ∨ a = Dn) H6 acc xs ∧
          dLcLoop g1 dYes te (wipeD σd4 vs1) (items1.drop j) acc μ6 fun acc' μ4 => dLc2Loop g ti1 g1 te vs1 (hideD σd (own.map (·.2))) (items.drop (i + 1)) acc' μ4 fun acc μ2 => Q (.lst acc) μ2, ⟨items1.length, rfl, Nat.zero_le _, μ5, acc, xs, S5'.rebase, A.trans (.of_sr S5'), S5'.keep Dn _ nb hD, ?_, q5⟩, ?_⟩
        · exact Rps.stay (fun a o m e => ⟨S5'.keep a o (fun z => m (.inl (S1.m0 a (S1.bm a z)))) e, m⟩) _ _ rs
        rintro j m H6 ⟨rfl, hj, μ6, acc6, xs6, S6, A6, hD6, rs6, q6⟩
        by_cases hlt1 : j < items1.length
        · refine .inr ⟨ok1.go ⟨G.K, G.bx, fun a => M a ∨ a = Dn, H6, Fr⟩ _ _ H6 _ μ6 j rfl rfl mF1 S6 hlt1, fun H' => ∃ μ6 acc xs, SR ⟨G.K, G.bx, fun a => M a ∨ a = Dn, H', Fr⟩ (fun a => M a ∨ a = Dn) σ4 H' σd4 μ6 ∧ Aft G.K G.bx (fun a => M a ∨ a = Dn) H1 H' μ6 ∧ H' Dn = some (.lst xs) ∧ Rps G.K G.bx (fun a => M a ∨ a = Dn) H' acc xs ∧
              dLcLoop g1 dYes te (wipeD σd4 vs1) (items1.drop (j + 1)) acc μ6 fun acc' μ4 => dLc2Loop g ti1 g1 te vs1 (hideD σd (own.map (·.2))) (items.drop (i + 1)) acc' μ4 fun acc μ2 => Q (.lst acc) μ2, ?_, ?_⟩
          · rintro H7 ⟨μ7, acc7, xs7, h0, h1, h2, h3, h4⟩
            exact ⟨items1.length - (j + 1), by omega, rfl, hlt1, μ7, acc7, xs7, h0, h1, h2, h3, h4⟩
          · intro x1 H7 y1
            rw [List.drop_eq_getElem_cons hlt1] at q6
            obtain ⟨S7, r7⟩ := ok1.yld ⟨G.K, G.bx, fun a => M a ∨ a = Dn, H6, Fr⟩ _ _ H6 _ μ6 j x1 H7 items1[j] rfl rfl mF1 S6 (List.getElem?_eq_getElem hlt1) y1
            refine hg1 ⟨G.K, G.bx, fun a => M a ∨ a = Dn, H6, Fr⟩ _ _ H7 _ μ6 items1[j] x1 _ _ hK (S7.wipeS vs1) r7 q6 fun σ8 H8 σd8 μ8 S8 w8 q8 => ?_
            refine ⟨w8.trans (wipe_wipe σ4 _), ?_⟩
            simp only [tYes, if_true]
            simp only [dYes, if_true] at q8
            refine ⟨⟨G.K, G.bx, fun a => M a ∨ a = Dn, H6, Fr⟩, _, σd8, μ8, _, hK, S8, q8, fun v H9 d μ9 S9 r9 q9 => ?_⟩
            have k69 : Kp (fun a => M a ∨ a = Dn) (fun a => M a ∨ a = Dn) H6 H9 := fun a o m e => ⟨S9.keep a o (fun z => m (.inl (S1.m0 a (S1.bm a z)))) e, m⟩
            have rs9 := Rps.stay k69 _ _ rs6
            have A9 := A6.trans (.of_sr S9)
            refine ⟨xs6, S9.keep Dn _ nb hD6, by rw [rs6.len]; exact q9.1, μ9, acc6 ++ [d], xs6 ++ [v], (S6.mix S9).putD (.inr rfl) nb, ⟨fun a o hb e => by rw [upd_ne (ne_of_none e hn)]; exact A9.keep a o hb e, A9.blen, fun j a l e1 e2 => ?_⟩, upd_same, Rps.stay kDn _ _ (rs9.app (.one r9)), q9.2⟩
            obtain ⟨ys, e3, r3⟩ := A9.box j a l e1 e2
            exact ⟨ys, by rw [upd_ne (bxne e1)]; exact e3, Rps.stay kDn _ _ r3⟩
        · have e : j = items1.length := by omega
          subst e
          rw [List.drop_length] at q6
          exact .inl ⟨ok1.stop ⟨G.K, G.bx, fun a => M a ∨ a = Dn, H6, Fr⟩ _ _ H6 _ μ6 rfl rfl mF1 S6, μ6, acc6, xs6, A6, hD6, rs6, q6⟩
    · have e : i = items.length := by omega
      subst e
      rw [List.drop_length] at q2
      have kM : Kp (fun a => M a ∨ a = Dn) M H2 H2 := fun a o m e => ⟨e, fun z => m (.inl z)⟩
      have A' : Aft G.K G.bx M H1 H2 μ2 := ⟨A.keep, A.blen, fun i a l e1 e2 => by obtain ⟨ys, h1, h2⟩ := A.box i a l e1 e2; exact ⟨ys, h1, Rps.stay kM _ _ h2⟩⟩
      exact .inl ⟨ok.stop ⟨G.K, G.bx, fun a => M a ∨ a = Dn, H2, (G.pinL F).Fr⟩ _ _ H2 _ μ2 rfl rfl mF S2, k (.ref Dn) H2 (.lst acc) μ2 (S1.unpinL.after A') ⟨Dn, xs, rfl, ⟨nM, hD⟩, Rps.stay kM _ _ rs⟩ q2⟩
theorem de_lc2 (hi : DI X tg iter ti) (hg : CG X.K (own.map (·.2)) g' g) (hg1 : CG X.K vs1 g1' g1)
    (hi1 : ∀ (s : Shared) (H : Hp) (C : Addr) (cl : List (Str × Addr)) (fp : List Addr), DI (X.blk s H scope (compEnvC scope cl C X.env) fp) tg1 iter1 ti1)
    (he : ∀ (s : Shared) (H : Hp) (C : Addr) (cl : List (Str × Addr)) (fp : List Addr), DE (X.blk s H scope (compEnvC scope cl C X.env) fp) elt te)
    (hp : ∀ wi wi1 te', PI X tg iter wi → (∀ (s : Shared) (H : Hp) (C : Addr) (cl : List (Str × Addr)) (fp : List Addr), PI (X.blk s H scope (compEnvC scope cl C X.env) fp) tg1 iter1 wi1) →
      (∀ (s : Shared) (H : Hp) (C : Addr) (cl : List (Str × Addr)) (fp : List Addr), PE (X.blk s H scope (compEnvC scope cl C X.env) fp) elt te') → PE X (.ListComp elt [⟨tg, iter, [], 0⟩, ⟨tg1, iter1, [], 0⟩] scope pos) (tLc2 wi g' tYes wi1 g1' tYes te' (own.map (·.2)) vs1)) :
    DE X (.ListComp elt [⟨tg, iter, [], 0⟩, ⟨tg1, iter1, [], 0⟩] scope pos) (dLc2 ti g ti1 g1 te (own.map (·.2)) vs1) := by
  obtain ⟨wi, p, h⟩ := hi.ex
  exact ⟨_, hp _ _ _ p (fun s H C cl fp => (hi1 s H C cl fp).lift) fun s H C cl fp => (he s H C cl fp).lift, lc2_snd h hg hg1⟩
/-! ### all() of a list of truths -/
def dAll : DRC := fun ds μ Q => ∃ bs : List Bool, ds = [.lst (bs.map D.bl)] ∧ Q (.bl (bs.all id)) μ
theorem rps_bls {K : PySem.W.Frag} {bx M H} : ∀ {bs : List Bool} {xs : List V}, Rps K bx M H (bs.map D.bl) xs → xs = bs.map V.bl
  | [], _, h => h
  | b :: bs, _, h => by
    obtain ⟨v, r, rfl, h1, h2⟩ := h
    rw [show v = .bl b from h1, rps_bls h2]; rfl
theorem cd_all (hc : X.calm = true) : CD X (.builtin "all") dAll := by
  refine ⟨_, cr_all hc, fun G M σ H σd μ xs ds Q R hK S r q k => ?_⟩
  obtain ⟨bs, rfl, q⟩ := q
  obtain ⟨v, rfl, r1⟩ := rps1 r
  obtain ⟨a, xs, rfl, o, rs⟩ := r1
  rw [rps_bls rs] at o
  exact ⟨a, bs, rfl, by rw [← hK]; exact o.sq, k _ _ _ _ S (rpB _) q⟩
end
end DL

set_option maxRecDepth 100000
namespace DL
open PySem PySem.Spec PyProof.Rows L2 PySem.SeqAt
/-! a dict is no tuple -/
section
variable {A : Around} {s : Shared}
theorem dict_ne_declines_tuple (l b : Addr) (es : Array DictEntry) (n : Nat) (dd : Option Addr) (sl : Array (Option Value)) (items : Array Value) (n2 : Nat) (dd2 : Option Addr) (sl2 : Array (Option Value)) :
    Meets (PySem.Builtin.«dict.__ne__» ⟨[.ref l, .ref b], []⟩) (fun _ R s => s.heap.get? l = some { cls := .type "dict", dict := dd, data := .dict es n, slots := sl } ∧ s.heap.get? b = some { cls := .type "tuple", dict := dd2, data := .seq items n2, slots := sl2 } ∧ R (.ok (.ret .notImplemented)) s) :=
  .of_wp fun prog w A R s h => by obtain ⟨hp, g, d, tk, os⟩ := s; obtain ⟨hl, hb, h⟩ := h; have f1 := F.sub_tuple_dict; wp_walk using wpAny_loadPart' hl, wpAny_loadPart' hb; exact ⟨_, rfl, h⟩
theorem tuple_ne_declines_dict (l b : Addr) (es : Array DictEntry) (n : Nat) (dd : Option Addr) (sl : Array (Option Value)) (items : Array Value) (n2 : Nat) (dd2 : Option Addr) (sl2 : Array (Option Value)) :
    Meets (PySem.Builtin.«tuple.__ne__» ⟨[.ref b, .ref l], []⟩) (fun _ R s => s.heap.get? l = some { cls := .type "dict", dict := dd, data := .dict es n, slots := sl } ∧ s.heap.get? b = some { cls := .type "tuple", dict := dd2, data := .seq items n2, slots := sl2 } ∧ R (.ok (.ret .notImplemented)) s) :=
  .of_wp fun prog w A R s h => by obtain ⟨hp, g, d, tk, os⟩ := s; obtain ⟨hl, hb, h⟩ := h; have f1 := F.sub_dict_tuple; wp_walk using wpAny_loadPart' hl, wpAny_loadPart' hb; exact ⟨_, rfl, h⟩
theorem ne_dict_tuple {l b : Addr} {o : Obj} {es : Array DictEntry} {n : Nat} {items2 : Array Value} (ho : s.heap.get? l = some o) (hc : o.cls = .type "dict") (hd : o.data = .dict es n) (hb : s.heap.IsTuple b items2) (hu : A.units < cLine) : RcNeAt A s (.ref l) (.ref b) true := fun prog w E Q h => by
  obtain ⟨⟨cls2, dd2, data2, sl2⟩, ho2, hc2, n2, hd2⟩ := id hb
  obtain ⟨c, dd, dt, sl⟩ := o
  simp only at hc hd hc2 hd2
  subst hc hd hc2 hd2
  have hne : l ≠ b := fun e => by subst e; rw [ho] at ho2; exact absurd (congrArg Obj.cls (Option.some.inj ho2)) (by simp)
  exact (rc_ne_decline_or (k := false) ⟨_, ho, rfl⟩ ⟨_, ho2, rfl⟩ (by decide) F.sub_tuple_dict F.slot_dict_ne F.slot_tuple_ne_refl
    (fun _ hq => call_meets F.slot_dict_ne ⟨_, ho, rfl⟩ F.entry_dict_ne (F.args_dict_ne_2 _ _) (dict_ne_declines_tuple l b es n dd sl items2 n2 dd2 sl2) ⟨ho, ho2, hq⟩)
    (fun _ hq => call_meets F.slot_tuple_ne_refl ⟨_, ho2, rfl⟩ F.entry_tuple_ne (F.args_tuple_ne_2 _ _) (tuple_ne_declines_dict l b es n dd sl items2 n2 dd2 sl2) ⟨ho, ho2, hq⟩)
    (fun _ hq => wpAny_isSame_ref_other hne ho ho2 (by simp) hq) (.inr hu) h)
end
def rNeDT (K : PySem.W.Frag) : R2 := fun x y H Q => ∃ a kvs b ys, x = .ref a ∧ y = .ref b ∧ H a = some (.dK kvs) ∧ SqT K H b ys ∧ Q (.bl true) H
section
variable {X : Cx}
theorem op_neDT (hu : X.A.units + 64 < cLine) : OpR X (compareOp .NotEq) (rNeDT X.K) := by
  intro pins s σ H x y v u Q I rx ry h
  obtain ⟨a, kvs, b, ys, rfl, rfl, ha, hb, q⟩ := h
  cases rx
  cases ry
  obtain ⟨its, r, pl, hz⟩ := I.tuple hb
  obtain ⟨_, hne, vs, hkv, o, es, ep, ho, ⟨hc, _, _⟩, hd, _⟩ := I.hok a _ ha
  exact ne_dict_tuple ho hc hd pl (show X.A.units < cLine by omega) _ _ _ _ ⟨.bl _, H, I, rfl, q⟩
def dNeX : DR2 := fun x y μ Q => dNe x y μ Q ∨ ∃ l m, x = .dct l ∧ y = .tup m ∧ Q (.bl true) μ
theorem od_neX (hu : X.A.units + 64 < cLine) : OD X (compareOp .NotEq) dNeX := by
  refine OD.or (od_ne hu) ⟨_, op_neDT hu, fun G M σ H σd μ x y dx dy Q R hK S rx ry q k => ?_⟩
  obtain ⟨l, m, rfl, rfl, q⟩ := q
  obtain ⟨a, rfl, _, ha⟩ := rx
  obtain ⟨b, ys, rfl, o, _⟩ := ry
  exact ⟨a, _, b, ys, rfl, rfl, ha, by rw [← hK]; exact o.sq, k _ _ _ _ S (rpB _) q⟩
end
end DL
namespace DL
theorem e_lc2 {ti : DTI} {g : DTG} {ti1 : DTI} {g1 : DTG} {te : DTE} {vs vs1 : List Nat} {σ : DSt} {μ : Mem} {Q : D → Mem → Prop} (h : ti σ μ fun items μ1 => dLc2Loop g ti1 g1 te vs1 (hideD σ vs) items [] μ1 fun acc μ2 => Q (.lst acc) μ2) : dLc2 ti g ti1 g1 te vs vs1 σ μ Q := h
end DL

set_option maxRecDepth 100000
namespace DL
open PySem PySem.Spec PyProof.Rows L2
section
variable {X : Cx} {o e : Expr} {ta tb : DTE}
/-! max(xs), min(xs), xs.index(i) of a list of ints -/
def dMaxL : DRC := fun ds μ Q => ∃ (d : D) (ns : List Int), ds = [d] ∧ lstOf μ d = some (ns.map D.int) ∧ 0 < ns.length ∧ ∀ m, m ∈ ns → (∀ y, y ∈ ns → y ≤ m) → Q (.int m) μ
def dMinL : DRC := fun ds μ Q => ∃ (d : D) (ns : List Int), ds = [d] ∧ lstOf μ d = some (ns.map D.int) ∧ 0 < ns.length ∧ ∀ m, m ∈ ns → (∀ y, y ∈ ns → m ≤ y) → Q (.int m) μ
theorem cd_maxL (hc : X.calm = true) : CD X (.builtin "max") dMaxL := by
  refine ⟨_, cr_max hc, fun G M σ H σd μ xs ds Q R hK S r q k => ?_⟩
  obtain ⟨d, ns, rfl, e, h0, q⟩ := q
  obtain ⟨v, rfl, r1⟩ := rps1 r
  obtain ⟨a, xs, rfl, hs, rs⟩ := sq_lst S r1 e
  rw [rs.ints] at hs
  exact ⟨a, ns, rfl, by rw [← hK]; exact hs, h0, fun m h1 h2 => k _ _ _ _ S (rpI _) (q m h1 h2)⟩
theorem cd_minL (hc : X.calm = true) : CD X (.builtin "min") dMinL := by
  refine ⟨_, cr_min hc, fun G M σ H σd μ xs ds Q R hK S r q k => ?_⟩
  obtain ⟨d, ns, rfl, e, h0, q⟩ := q
  obtain ⟨v, rfl, r1⟩ := rps1 r
  obtain ⟨a, xs, rfl, hs, rs⟩ := sq_lst S r1 e
  rw [rs.ints] at hs
  exact ⟨a, ns, rfl, by rw [← hK]; exact hs, h0, fun m h1 h2 => k _ _ _ _ S (rpI _) (q m h1 h2)⟩
theorem dp_ints {K : PySem.W.Frag} {H : Hp} : ∀ ns : List Int, DpAll K H (ns.map V.int) (ns.map PyData.int)
  | [] => .nil
  | n :: ns => .cons (.int n) (dp_ints ns)
theorem lay_ints : ∀ ns : List Int, PyData.canLayAll0 (ns.map PyData.int) = true ∧ PyData.depthAll (ns.map PyData.int) = 0
  | [] => ⟨rfl, rfl⟩
  | n :: ns => by
    obtain ⟨a, b⟩ := lay_ints ns
    refine ⟨?_, ?_⟩
    · simp only [List.map_cons, PyData.canLayAll0, PyData.canLay0, a]; rfl
    · simp only [List.map_cons, PyData.depthAll, PyData.depth, b]; rfl
theorem shaped_ints (ns : List Int) : SeqAt.shaped (.list (ns.map PyData.int)) = true := by
  obtain ⟨a, b⟩ := lay_ints ns
  unfold SeqAt.shaped
  simp only [PyData.canLay0, PyData.depth, a, b]
  decide
def dIndex (ta tb : DTE) : DTE := fun σd μ Q => ta σd μ fun x μ1 => ∃ ns : List Int, (x = .lst (ns.map D.int) ∨ x = .frz (ns.map D.int)) ∧ tb σd μ1 fun y μ2 => ∃ (i : Int) (j : Nat), y = .int i ∧ ns[j]? = some i ∧ (∀ m, m < j → ns[m]? ≠ some i) ∧ Q (.int (j : Nat)) μ2
theorem de_index {apos cpos : Pos} (hu : X.A.units + 65 < cLine) (ho : DE X o ta) (hb : DE X e tb)
    (hp : ∀ te te', PE X o te → PE X e te' → PE X (.Call (.Attribute o "index" apos) [e] [] cpos) (tBM X.K "list" (rIndexD X.K) te (tCons te' tNil))) :
    DE X (.Call (.Attribute o "index" apos) [e] [] cpos) (dIndex ta tb) := by
  obtain ⟨te, p, h⟩ := ho.ex
  obtain ⟨te', p', h'⟩ := hb.ex
  refine ⟨_, hp _ _ p p', fun G M σ H σd μ Q R hK S q k => ?_⟩
  refine h G M σ H σd μ _ _ hK S q fun v1 H1 d1 μ1 S1 r1 q1 => ?_
  obtain ⟨ns, hx, q1⟩ := q1
  have hl : ∀ (G' : Gm) (M' : Addr → Prop) (H' : Hp), G'.K = G.K → Rp G'.K G'.bx M' H' d1 v1 → ∃ a, v1 = .ref a ∧ SqL X.K H' a (ns.map V.int) := fun G' M' H' eK r => by
    rcases hx with rfl | rfl
    · obtain ⟨a, xs, rfl, o, rs⟩ := r
      rw [rs.ints] at o
      exact ⟨a, rfl, by rw [← hK, ← eK]; exact o.sq⟩
    · obtain ⟨a, xs, rfl, o, rs⟩ := r
      rw [rs.ints] at o
      exact ⟨a, rfl, by rw [← hK, ← eK]; exact o.sq⟩
  refine ⟨?_, ?_⟩
  · obtain ⟨a, rfl, hs⟩ := hl G M H1 rfl r1
    exact .inl ⟨rfl, _, hs⟩
  refine h' (G.pin v1 d1) M σ H1 σd μ1 _ _ hK (S1.pin r1) q1 fun v2 H2 d2 μ2 S2 r2 q2 => ?_
  obtain ⟨S2', r1'⟩ := S2.unpin
  obtain ⟨i, j, rfl, hj, hm, q⟩ := q2
  obtain rfl : v2 = .int i := r2
  obtain ⟨a, rfl, hs⟩ := hl G M H2 rfl r1'
  refine ⟨a, .int i, .int i, ns.map PyData.int, j, .int i, rfl, rfl, .lst hs (dp_ints ns), .int i, shaped_ints ns, rfl, by rw [List.getElem?_map, hj]; rfl, by simp [PyData.eqv], fun m z' hm' hz => ?_, k _ _ _ _ S2' (rpI _) q⟩
  rw [List.getElem?_map] at hz
  cases e : ns[m]? with
  | none => rw [e] at hz; cases hz
  | some u =>
    rw [e] at hz
    cases hz
    have : u ≠ i := fun z => hm m hm' (by rw [e, z])
    show (u == i) = false
    exact beq_eq_false_iff_ne.mpr this
theorem e_index {σ : DSt} {μ : Mem} {Q : D → Mem → Prop} (h : ta σ μ fun x μ1 => ∃ ns : List Int, (x = .lst (ns.map D.int) ∨ x = .frz (ns.map D.int)) ∧ tb σ μ1 fun y μ2 => ∃ (i : Int) (j : Nat), y = .int i ∧ ns[j]? = some i ∧ (∀ m, m < j → ns[m]? ≠ some i) ∧ Q (.int (j : Nat)) μ2) : dIndex ta tb σ μ Q := h
end
theorem room65 {k : Nat} {A : Around} (r : Room k A) : A.units + 65 < cLine := by have := r.un; omega
end DL

set_option maxRecDepth 100000
namespace DL
open PySem PySem.Spec PyProof.Rows L2
/-! ### a def with one keyword-only parameter, None if it is not told -/
def BindsK (K : PySem.W.Frag) (fd : FuncData) (ps : List Str) (kn : Str) : Prop :=
  (∀ (s : Shared) (us : List Value), K.In s.heap → us.length + 1 = ps.length → BindsTo s fd ⟨us, []⟩ (ps.zip (us ++ [.none]))) ∧
  ∀ (s : Shared) (us : List Value) (u : Value), us.length + 1 = ps.length → BindsTo s fd ⟨us, [(kn, u)]⟩ (ps.zip (us ++ [u]))
def DfnK (K : PySem.W.Frag) (mg : Str → Option Value) (x : Str) (st : Stmt) (ps : List Str) (kn : Str) : Prop :=
  ∃ (f : Addr) (fd : FuncData), mg x = some (.ref f) ∧ Fun K x x st f fd ∧ BindsK K fd ps kn
def HasK (P : Program) (w : World) (K : PySem.W.Frag) (mg : Str → Option Value) (base : Heap) (k : Nat) (x : Str) (ps : List Str) (kn : Str) (F : DSp) : Prop :=
  ∃ (f : Addr) (fd : FuncData), mg x = some (.ref f) ∧ PySem.W.keepIn K (.ref f) = true ∧ BindsK K fd ps kn ∧ FnG P w K mg base k f fd ps (spD K F)
section
variable {P : Program} {w : World} {K : PySem.W.Frag} {mg : Str → Option Value} {base : Heap}
theorem okHK {x kn : Str} {st : Stmt} {N ps : List Str} {k : Nat} {F : DSp} {t : DTS} (D0 : DfnK K mg x st ps kn) (S : FnScope N ps (defScope st)) (cnt : ∀ ds μ Gd, F ds μ Gd → ds.length = ps.length)
    (bd : ∀ (f : Addr) (cdv : Value) (A : Around) (out : List Env) (s : Shared) (H : Hp) (E : XK), (bX P w K mg base N x st f cdv A out s H E).A.guards = some [] → Room k (bX P w K mg base N x st f cdv A out s H E).A →
      DSs (bX P w K mg base N x st f cdv A out s H E) (defBody st) t) (ht : ∀ ds μ Gd, F ds μ Gd → t { nx := fun _ μ' => Gd .non μ', rt := Gd } (startD N.length ds) μ) : HasK P w K mg base (k + 1) x ps kn F := by
  obtain ⟨f, fd, g1, Fu, b1⟩ := D0
  obtain ⟨oc, od, kV, doc, pm, an, cdv, ct, osl, e1, l1, c1⟩ := Fu.ex
  exact ⟨f, fd, g1, Fu.kp, b1, okD Fu S cnt fun cdv A out s H E hg hr => ⟨t, bd f cdv A out s H E hg hr, ht⟩⟩
/-- the binding, of the text -/
theorem bindsK_of {x kn : Str} {params : Arguments} {body : List Stmt} {scope : Scope} {ps : List Str} {D : Addr} {doc pm : Value} {an : Option Addr} {cdv ct : Value} (hD : PySem.W.nsIn K D kn = some (some .none))
    (h1 : ∀ us : List Value, us.length + 1 = ps.length → KwChain D [(kn, .none)] (bindArgs (PySem.W.fnOf x x params body scope .none (.ref D) doc pm an cdv ct) ⟨us, []⟩) (ps.zip (us ++ [.none])))
    (h2 : ∀ (us : List Value) (u : Value), us.length + 1 = ps.length → bindArgs (PySem.W.fnOf x x params body scope .none (.ref D) doc pm an cdv ct) ⟨us, [(kn, u)]⟩ = pure (ps.zip (us ++ [u]))) :
    BindsK K (PySem.W.fnOf x x params body scope .none (.ref D) doc pm an cdv ct) ps kn :=
  ⟨fun s us X hl => BindsTo.of_looks fun M => KwChain.looks X (fun q hq => by rw [List.mem_singleton.mp hq]; exact hD) (h1 us hl), fun s us u hl => .of_eq (h2 us u hl)⟩
end
section
variable {X : Cx} {k : Nat} {f : Addr} {fd : FuncData} {ps : List Str} {sp : Sp} {x kn : Str} {p pos kpos : Pos} {e ek : Expr} {es : List Expr} {t : TA} {te : TE}
theorem go_fnB {pins : List (Addr × Obj)} {σ : List (Option V)} {H : Hp} {s : Shared} {Q : VK} {as : Args} {us : List Value} {vs : List V} (F : FnG X.prog X.w X.K X.mg X.base k f fd ps sp) (hg : X.A.guards = some []) (hr : Room k X.A) (bt : BindsTo s fd as (ps.zip us))
    (I : Inv X pins σ H s) (r : Vals vs us) (h : sp vs H Q E0) : wpAny (model X.prog X.w) X.A (call (.ref f) as.pos as.kw) (EP X pins σ Q) X.xe s := by
  apply wpAny_call
  refine codeAny_mono (F.does X.A X.stack s H as us vs Q E0 hg hr I.env0 bt r h) ?_
  intro res s' hq
  match res, hq with
  | .ok (.ret u), hq => exact I.after hq
  | .ok .next, hq => exact (show False from hq).elim
  | .ok .brk, hq => exact (show False from hq).elim
  | .ok .cont, hq => exact (show False from hq).elim
  | .error ex, hq => exact (show False from hq).elim
theorem pe_callGd (F : FnG X.prog X.w X.K X.mg X.base k f fd ps sp) (hg : X.A.guards = some []) (hr : Room k X.A) (gl : Gl X x) (hm : X.mg x = some (.ref f)) (hk : PySem.W.keepIn X.K (.ref f) = true) (hb : BindsK X.K fd ps kn)
    (ha : PA X (e :: es) t) (hdb : (x == ("__debug__" : Str)) = false := by decide) (he : starEach (e :: es) X.env = (false, eval e X.env) :: starEach es X.env := by rfl) (hpl : (backTo pos (starEach es X.env)).any (·.1) = false := by rfl) :
    PE X (.Call (.Name x p) (e :: es) [] pos) (fun σ H Q => t σ H fun vs H1 => sp (vs ++ [.non]) H1 Q E0) := by
  constructor
  intro pins s σ H Q I h
  apply wpAny_Call_Name_kw
  apply ld_glob I gl hm _ hdb
  apply PySem.W.callWith_K (h₀ := X.base) I.ok.mod.kin hk _ he hpl
  refine thn (ha.run pos pins s σ H _ I h) ?_
  rintro us s1 ⟨vs, H1, I1, r, q⟩
  have hl := F.cnt _ _ _ _ q
  rw [List.length_append, List.length_singleton, r.length] at hl
  exact ⟨I1.kIn, go_fnB (as := ⟨us, []⟩) F hg hr (hb.1 s1 us I1.kIn hl) I1 (r.append (.cons (show L2.RelV V.non Value.none from rfl) .nil)) q⟩
theorem pe_callGk (F : FnG X.prog X.w X.K X.mg X.base k f fd ps sp) (hg : X.A.guards = some []) (hr : Room k X.A) (gl : Gl X x) (hm : X.mg x = some (.ref f)) (hk : PySem.W.keepIn X.K (.ref f) = true) (hb : BindsK X.K fd ps kn)
    (ha : PA X (e :: es) t) (hkw : PE X ek te) (hdb : (x == ("__debug__" : Str)) = false := by decide) (he : starEach (e :: es) X.env = (false, eval e X.env) :: starEach es X.env := by rfl)
    (hall : (backToKw pos (keywordEach [⟨some kn, ek, kpos⟩] X.env)).all (·.1.isSome) = true := by rfl) (hks : (backToKw pos (keywordEach [⟨some kn, ek, kpos⟩] X.env)).filterMap (·.1) = [kn] := by rfl)
    (hpl : ((backTo pos (starEach (e :: es) X.env)).any (·.1) || (backToKw pos (keywordEach [⟨some kn, ek, kpos⟩] X.env)).any (·.1.isNone)) = false := by rfl) :
    PE X (.Call (.Name x p) (e :: es) [⟨some kn, ek, kpos⟩] pos) (fun σ H Q => t σ H fun vs H1 => tCons te tNil σ H1 fun zs H2 => zs.length = 1 ∧ sp (vs ++ zs) H2 Q E0) := by
  refine ⟨fun pins s σ H Q I h => ?_⟩
  refine wpAny_Call_Name_kw (ld_glob I gl hm ?_ hdb)
  refine PySem.W.callWith_KW (h₀ := X.base) I.ok.mod.kin hk hall (thn (ha.run pos pins s σ H _ I h) fun us s1 ⟨vs, H1, I1, r, q⟩ => ?_) hpl he
  have hkw' : PK X [⟨some kn, ek, kpos⟩] (tCons te tNil) := pk_cons hkw pk_nil
  refine thn (hkw'.run pos pins s1 σ H1 _ I1 q) fun ws s2 ⟨zs, H2, I2, rz, l1, q2⟩ => ⟨I2.kIn, ?_⟩
  rw [hks]
  match zs, l1, rz with
  | [z], _, rz =>
    obtain ⟨u, rfl, ru⟩ := Vals.one rz
    have hl := F.cnt _ _ _ _ q2
    rw [List.length_append, List.length_singleton, r.length] at hl
    exact go_fnB (as := ⟨us, [(kn, u)]⟩) F hg hr (hb.2 s2 us u hl) I2 (r.append (.cons ru .nil)) q2
end
theorem rps_zip {K : PySem.W.Frag} {bx : List Addr} {M : Addr → Prop} {H : Hp} : ∀ {ds : List D} {vs : List V}, Rps K bx M H ds vs → ∀ q ∈ vs.zip ds, Rp K bx M H q.2 q.1
  | [], _, _, q, hq => by simp at hq
  | d :: ds, _, h, q, hq => by
    obtain ⟨v, r, rfl, h1, h2⟩ := h
    rcases List.mem_cons.mp (show q ∈ (v, d) :: r.zip ds from hq) with rfl | hq
    · exact h1
    · exact rps_zip h2 q hq
theorem zip_rps {K : PySem.W.Frag} {bx : List Addr} {M : Addr → Prop} {H : Hp} : ∀ {ds : List D} {vs : List V}, vs.length = ds.length → (∀ q ∈ vs.zip ds, Rp K bx M H q.2 q.1) → Rps K bx M H ds vs
  | [], [], _, _ => rfl
  | [], v :: vs, hl, _ => by cases hl
  | d :: ds, [], hl, _ => by cases hl
  | d :: ds, v :: vs, hl, h => ⟨v, vs, rfl, h (v, d) (List.mem_cons_self ..), zip_rps (by simpa using hl) fun q hq => h q (List.mem_cons_of_mem _ hq)⟩
section
variable {X : Cx} {k : Nat} {ps : List Str} {F : DSp} {x kn : Str} {p pos kpos : Pos} {e ek : Expr} {es : List Expr} {tr : DTA} {tk : DTE}
/-- f(a, ..): the last is None -/
def dCallD (F : DSp) (tr : DTA) : DTE := fun σd μ Q => tr σd μ fun ds μ1 => F (ds ++ [.non]) μ1 Q
/-- f(a, .., k = e) -/
def dCallK (F : DSp) (tr : DTA) (tk : DTE) : DTE := fun σd μ Q => tr σd μ fun ds μ1 => tk σd μ1 fun d μ2 => F (ds ++ [d]) μ2 Q
theorem de_callD (Hs : HasK X.prog X.w X.K X.mg X.base k x ps kn F) (hg : X.A.guards = some []) (hr : Room k X.A) (gl : Gl X x)
    (ha : DA X (e :: es) tr) (hdb : (x == ("__debug__" : Str)) = false := by decide) (he : starEach (e :: es) X.env = (false, eval e X.env) :: starEach es X.env := by rfl) (hpl : (backTo pos (starEach es X.env)).any (·.1) = false := by rfl) :
    DE X (.Call (.Name x p) (e :: es) [] pos) (dCallD F tr) := by
  obtain ⟨f, fd, hm, hk, hb, Fn⟩ := Hs
  obtain ⟨te, p, h⟩ := ha.ex
  refine ⟨_, pe_callGd Fn hg hr gl hm hk hb p hdb he hpl, fun G M σ H σd μ Q R hK S q kk => ?_⟩
  refine h G M σ H σd μ _ _ hK S q fun vs H1 ds μ1 S1 r1 q1 => ?_
  refine ⟨G.bx, M, ds ++ [.non], μ1, Q, by rw [← hK]; exact S1.entry, by rw [← hK]; exact r1.app (.one rfl), q1, fun v H' d μ' A r q => ?_⟩
  rw [← hK] at A r
  exact kk v H' d μ' (S1.after A) r q
theorem de_callK (Hs : HasK X.prog X.w X.K X.mg X.base k x ps kn F) (hg : X.A.guards = some []) (hr : Room k X.A) (gl : Gl X x)
    (ha : DA X (e :: es) tr) (hkw : DE X ek tk) (hdb : (x == ("__debug__" : Str)) = false := by decide) (he : starEach (e :: es) X.env = (false, eval e X.env) :: starEach es X.env := by rfl)
    (hall : (backToKw pos (keywordEach [⟨some kn, ek, kpos⟩] X.env)).all (·.1.isSome) = true := by rfl) (hks : (backToKw pos (keywordEach [⟨some kn, ek, kpos⟩] X.env)).filterMap (·.1) = [kn] := by rfl)
    (hpl : ((backTo pos (starEach (e :: es) X.env)).any (·.1) || (backToKw pos (keywordEach [⟨some kn, ek, kpos⟩] X.env)).any (·.1.isNone)) = false := by rfl) :
    DE X (.Call (.Name x p) (e :: es) [⟨some kn, ek, kpos⟩] pos) (dCallK F tr tk) := by
  obtain ⟨f, fd, hm, hk, hb, Fn⟩ := Hs
  obtain ⟨te, p, h⟩ := ha.ex
  obtain ⟨te', p', h'⟩ := hkw.ex
  refine ⟨_, pe_callGk Fn hg hr gl hm hk hb p p' hdb he hall hks hpl, fun G M σ H σd μ Q R hK S q kk => ?_⟩
  refine h G M σ H σd μ _ _ hK S q fun vs H1 ds μ1 S1 r1 q1 => ?_
  refine h' (G.pinL (vs.zip ds)) M σ H1 σd μ1 _ _ hK (S1.pinL (rps_zip r1)) q1 fun v2 H2 d2 μ2 S2 r2 q2 => ?_
  have S2' := S2.unpinL
  have r1' : Rps G.K G.bx M H2 ds vs := zip_rps r1.len fun q hq => S2.fr q (List.mem_append_left _ hq)
  refine ⟨rfl, G.bx, M, ds ++ [d2], μ2, Q, by rw [← hK]; exact S2'.entry, by rw [← hK]; exact r1'.app (.one r2), q2, fun v H' d μ' A r q => ?_⟩
  rw [← hK] at A r
  exact kk v H' d μ' (S2'.after A) r q
theorem e_callD {σ : DSt} {μ : Mem} {Q : D → Mem → Prop} (h : tr σ μ fun ds μ1 => F (ds ++ [.non]) μ1 Q) : dCallD F tr σ μ Q := h
theorem e_callK {σ : DSt} {μ : Mem} {Q : D → Mem → Prop} (h : tr σ μ fun ds μ1 => tk σ μ1 fun d μ2 => F (ds ++ [d]) μ2 Q) : dCallK F tr tk σ μ Q := h
end
end DL

set_option maxRecDepth 100000
namespace DL
open PySem PySem.Spec PyProof.Rows L2
section
variable {X : Cx} {t u : DTE}
/-! ### list(range(a, b)) -/
def dLstRg2 (t u : DTE) : DTE := fun σd μ Q => t σd μ fun x μ1 => u σd μ1 fun y μ2 => ∃ i j : Int, x = .int i ∧ y = .int j ∧ (0 ≤ i ∧ i ≤ 16777216 ∧ 0 ≤ j ∧ j ≤ 16777216) ∧ Q (.lst (rngD i (j - i).toNat)) μ2
theorem rgV_rel2 {K bx M H} (i j : Int) : Rps K bx M H (rngD i (j - i).toNat) (rgV i j) := by
  unfold rngD rgV
  have : ∀ l : List Nat, Rps K bx M H (l.map fun (k : Nat) => D.int (i + (k : Int))) (l.map fun k => V.int (i + (k : Nat))) := fun l => by
    induction l with
    | nil => rfl
    | cons a l ih => exact ⟨_, _, rfl, rfl, ih⟩
  exact this _
theorem de_listRg2 {a b : Expr} {p p2 pos pos2 : Pos} (he : DE X a t) (hf : DE X b u) (hp : ∀ te tf, PE X a te → PE X b tf → PE X (.Call (.Name "list" p) [.Call (.Name "range" p2) [a, b] [] pos2] [] pos) (tLstRg (tRg2 te tf))) : DE X (.Call (.Name "list" p) [.Call (.Name "range" p2) [a, b] [] pos2] [] pos) (dLstRg2 t u) := by
  obtain ⟨te, p, h⟩ := he.ex
  obtain ⟨tf, p', h'⟩ := hf.ex
  refine ⟨_, hp _ _ p p', fun G M σ H σd μ Q R hK S q k => ?_⟩
  refine h G M σ H σd μ _ _ hK S q fun v H1 d μ1 S1 r1 q1 => ?_
  refine h' G M σ H1 σd μ1 _ _ hK S1 q1 fun w H2 d2 μ2 S2 r2 q2 => ?_
  obtain ⟨i, j, rfl, rfl, ⟨i0, i1, j0, j1⟩, q2⟩ := q2
  have e : v = .int i := r1
  subst e
  have e : w = .int j := r2
  subst e
  exact ⟨i, j, rfl, rfl, RgOk.of_le i0 j1 i1 j0, fun q hq => k _ _ _ _ (S2.new hq) (S2.newL hq (rgV_rel2 i j)) q2⟩
theorem e_lstRg2 {σ : DSt} {μ : Mem} {Q : D → Mem → Prop} {i j : Int} (h1 : 0 ≤ i ∧ i ≤ 16777216 ∧ 0 ≤ j ∧ j ≤ 16777216) (h : Q (.lst (rngD i (j - i).toNat)) μ) : dLstRg2 (dC (.int i)) (dC (.int j)) σ μ Q := ⟨i, j, rfl, rfl, h1, h⟩
/-! ### ranges that go down -/
theorem rangeSize_nnN {a b c : Int} (h : c < 0) : 0 ≤ Builtin.Range.rangeSize a b c := by
  unfold Builtin.Range.rangeSize
  rw [if_neg (show ¬ c > 0 by omega)]
  split
  · have := Int.ediv_nonneg (show 0 ≤ a - b - 1 by omega) (show 0 ≤ -c by omega)
    omega
  · decide
theorem range_wideN {X : Cx} {tg : Expr} {pins : List (Addr × Obj)} {σ : List (Option V)} {H : Hp} {s : Shared} {R : It → Hp → Prop} {E : Value → Shared → Prop} {lo hi c : Int} {t u v : Tok} {tk : Nat} (c0 : c < 0) (I : Inv X pins σ H s)
    (q : R (Itc lo c (Builtin.Range.rangeSize lo hi c).toNat) H) : wpAny (model X.prog X.w) X.A (pyIter (.ref s.heap.objs.size)) (PIE X pins σ tg R) E { s with heap := s.heap.push { cls := .type "range", data := .fields #[.int lo t, .int hi u, .int c v] }, toks := tk } := by
  let h1 := s.heap.push { cls := .type "range", data := .fields #[.int lo t, .int hi u, .int c v] }
  have I1 : Inv X pins σ H { s with heap := h1, toks := tk } := I.kept fun b o e => Heap.get?_push_of_some _ e
  have sz : (((Builtin.Range.rangeSize lo hi c).toNat : Nat) : Int) - ((0 : Nat) : Int) = Builtin.Range.rangeSize lo hi c := by have := rangeSize_nnN (a := lo) (b := hi) c0; omega
  have e1 : lo + ((0 : Nat) : Int) * c = lo := by simp
  have new : ∀ b ∈ [h1.objs.size], FpOk X pins H b := fun b hb => by
    cases List.mem_singleton.mp hb
    exact I1.fpOk (Nat.le_refl _) (I1.hok.fresh (Nat.le_refl _))
  cases sm : Builtin.Range.small lo hi c with
  | true =>
    refine wpAny_pyIter_range (IsRange.new ..) sm ?_
    refine ⟨h1.objs.size, [h1.objs.size], _, _, H, rfl, I1.kept (t' := tk) fun b o e => Heap.get?_push_of_some _ e, turn_rangeC _ lo c (Builtin.Range.rangeSize lo hi c).toNat, ?_, new, q⟩
    show IsRangeIter _ _ (lo + ((0 : Nat) : Int) * c) ((((Builtin.Range.rangeSize lo hi c).toNat : Nat) : Int) - ((0 : Nat) : Int)) c
    rw [e1, sz]
    exact Heap.get?_push_size _ rfl
  | false =>
    refine wpAny_pyIter_longrange (IsRange.new ..) sm ?_
    refine ⟨h1.objs.size, [h1.objs.size], _, _, H, rfl, I1.kept (t' := tk) fun b o e => Heap.get?_push_of_some _ e, turn_longC _ lo c (Builtin.Range.rangeSize lo hi c).toNat, ?_, new, q⟩
    show IsLongIter _ _ (lo + ((0 : Nat) : Int) * c) ((((Builtin.Range.rangeSize lo hi c).toNat : Nat) : Int) - ((0 : Nat) : Int)) c
    rw [e1, sz]
    exact Heap.get?_push_size _ rfl
def iRngN (ta : TA) : TI := fun σ H R => ta σ H fun vs H1 => ∃ i j c : Int, vs = [.int i, .int j, .int c] ∧ c < 0 ∧ c.natAbs.log2 < 9000 ∧ R (Itc i c (Builtin.Range.rangeSize i j c).toNat) H1
theorem pi_rangeN {X : Cx} {tg a b c : Expr} {ta : TA} {p pos : Pos} (hg : Gl X "range") (hm : X.mg "range" = none) (ha : PA X [a, b, c] ta)
    (hs : starEach [a, b, c] X.env = (false, eval a X.env) :: starEach [b, c] X.env := by rfl) (hpl : (backTo pos (starEach [b, c] X.env)).any (·.1) = false := by rfl) :
    PI X tg (.Call (.Name "range" p) [a, b, c] [] pos) (iRngN ta) := by
  constructor
  intro pins s σ H R I h
  refine Call_ (ld_blt I hg hm boot_range (PyProof.Rows.callWith_type1 (thn (ha.run pos pins s σ H _ I h) ?_) hs hpl))
  rintro us s1 ⟨vs, H1, I1, r, i, j, k, rfl, k0, kl, q⟩
  match us, r with
  | [_, _, _], .cons ⟨t, rfl⟩ (.cons ⟨t', rfl⟩ (.cons ⟨t'', rfl⟩ .nil)) => exact call_range_3 (by omega) (range_wideN k0 I1 q) (.inl (PyProof.noPylong_of_log2 kl))
def dRngN (t : DTA) : DTI := fun σd μ Q => t σd μ fun ds μ1 => ∃ i j c : Int, ds = [.int i, .int j, .int c] ∧ c < 0 ∧ c.natAbs.log2 < 9000 ∧ Q (rngC i c (Builtin.Range.rangeSize i j c).toNat) μ1
theorem di_rangeN {X : Cx} {tg a b c : Expr} {ta : DTA} {p pos : Pos} (ha : DA X [a, b, c] ta) (hp : ∀ ta', PA X [a, b, c] ta' → PI X tg (.Call (.Name "range" p) [a, b, c] [] pos) (iRngN ta')) : DI X tg (.Call (.Name "range" p) [a, b, c] [] pos) (dRngN ta) := by
  obtain ⟨te, p, h⟩ := ha.ex
  refine ⟨_, hp _ p, fun G M σ H σd μ Q R hK S q k => ?_⟩
  refine h G M σ H σd μ _ _ hK S q fun vs H1 ds μ1 S1 r1 q1 => ?_
  obtain ⟨i, j, c, rfl, c0, cl, q1⟩ := q1
  obtain ⟨v, v', v'', rfl, r, r', r''⟩ := rps3 r1
  exact ⟨i, j, c, by rw [show v = .int i from r, show v' = .int j from r', show v'' = .int c from r''], c0, cl, k [] _ _ _ _ (S1.pinL fun q hq => nomatch hq) (rngC_it i c _) q1⟩
theorem e_rngN {tr : DTA} {σ : DSt} {μ : Mem} {Q : List D → Mem → Prop} (h : tr σ μ fun ds μ1 => ∃ i j c : Int, ds = [.int i, .int j, .int c] ∧ c < 0 ∧ c.natAbs.log2 < 9000 ∧ Q (rngC i c (Builtin.Range.rangeSize i j c).toNat) μ1) : dRngN tr σ μ Q := h
theorem e_rngNb {i j c : Int} {Q : List D → Prop} (c0 : c < 0) (cl : c.natAbs.log2 < 9000) (h : Q (rngC i c (Builtin.Range.rangeSize i j c).toNat)) : ∃ i' j' c' : Int, [D.int i, D.int j, D.int c] = [.int i', .int j', .int c'] ∧ c' < 0 ∧ c'.natAbs.log2 < 9000 ∧ Q (rngC i' c' (Builtin.Range.rangeSize i' j' c').toNat) := ⟨i, j, c, rfl, c0, cl, h⟩
end
end DL

set_option maxRecDepth 100000
namespace DL
open PySem PySem.Spec PyProof.Rows L2
/-! ### defs that may raise: the exception's class, dict and heap reach the caller's wish -/
structure FnX (P : Program) (w : World) (K : PySem.W.Frag) (mg : Str → Option Value) (base : Heap) (k : Nat) (f : Addr) (fd : FuncData) (ps : List Str) (sp : Sp) : Prop where
  cnt : ∀ vs H Q E, sp vs H Q E → vs.length = ps.length
  does : ∀ (A : Around) (out : List Env) (s : Shared) (H : Hp) (as : Args) (us : List Value) (vs : List V) (Q : VK) (E : XK), A.guards = some [] → Room k A → Env0 P w K mg base A out s H → BindsTo s fd as (ps.zip us) → Vals vs us → sp vs H Q E →
    codeAny (model P w) A (.call (.ref f) as) (CR (CX P w) out P w H s Q E) s
section
variable {P : Program} {w : World} {K : PySem.W.Frag} {mg : Str → Option Value} {base : Heap}
/-- a def by its body, whose own exceptions its wish takes -/
theorem fnX_of {x qual : Str} {st : Stmt} {f : Addr} {fd : FuncData} {N ps : List Str} {k : Nat} {sp : Sp} (F : Fun K x qual st f fd) (S : FnScope N ps (defScope st)) (cnt : ∀ vs H Q E, sp vs H Q E → vs.length = ps.length)
    (bd : ∀ (cdv : Value) (A : Around) (out : List Env) (s : Shared) (H : Hp) (vs : List V) (Q : VK) (E : XK), A.guards = some [] → Room k (A.deeper (envOfC qual (defScope st) s.heap.objs.size f cdv)) → sp vs H Q E →
      Takes (cxOf (CX P w) P w K mg base N qual (defScope st) f cdv A out s H E) (fun cls d _ H' => E cls d H') →
      ∃ t, PSs (cxOf (CX P w) P w K mg base N qual (defScope st) f cdv A out s H E) (defBody st) t ∧ t { nx := fun _ H' => Q .non H', rt := Q } (start N vs) H) : FnX P w K mg base (k + 1) f fd ps sp := by
  obtain ⟨oc, od, kV, doc, pm, an, cdv, ct, osl, rfl, lk, hcd⟩ := F.ex
  refine ⟨cnt, ?_⟩
  intro A out s H as us vs Q E hg hr e0 hb r hsp
  have n1 := cnt _ _ _ _ hsp
  have kin : K.In s.heap := e0.mod.kin.keeps fun b o e => (e0.bs b o e).1
  have lim : s.heap.NoLimit := e0.mod.nolimit.keeps fun b o e => (e0.bs b o e).1
  refine codeAny_call_function hr.depth (kin _ _ lk) rfl S.co S.gen rfl (PySem.W.codeRec_of kin hcd) ?_
  refine hb _ _ _ _ ?_
  refine wpAny_newFunctionEnv_cells S.kind (fun y hy => ?kinds) (fun env he s1 x => ?go)
  case kinds =>
    obtain ⟨n, v⟩ := y
    cases S.par n (List.of_mem_zip hy).1 with
    | inl q => exact Or.inl q
    | inr q => exact Or.inr ⟨q, PySem.W.cellsFrom_some _ _ _ (Or.inl q)⟩
  case go =>
    subst he
    refine ⟨lim.keeps x.toInCall.keep, ?_⟩
    apply codeAny_func
    have I := inv_start (CX := CX P w) (P := P) (w := w) (K := K) (mg := mg) (base := base) (E := E) S hr.hd e0 n1 r x
    obtain ⟨t, ht, hq⟩ := bd cdv A out s H vs Q E hg (hr.deeper _) hsp (takes_of rfl rfl rfl rfl)
    have run := ht.run [] s1 (start N vs) H _ I hq
    refine wpAny_mono run ?_ (fun e s' hs => hs)
    intro fl s' hs
    have fin : ∀ (σ' : List (Option V)) (H' : Hp) (v : V) (u : Value), Inv (cxOf (CX P w) P w K mg base N qual (defScope st) f cdv A out s H E) [] σ' H' s' → RelV v u → Q v H' → CE out P w H s Q u s' := by
      intro σ' H' v u J rv q
      exact ⟨v, H', J.os, J.bare, J.base, J.hok, rv, q⟩
    match fl, hs with
    | .ret u, ⟨v, σ', H', J, rv, q⟩ => exact fin σ' H' v u J rv q
    | .next, ⟨σ', H', J, q⟩ => exact fin σ' H' .non .none J rfl q
    | .brk, ⟨_, _, _, q⟩ => exact q.elim
    | .cont, ⟨_, _, _, q⟩ => exact q.elim
end
section
variable {X : Cx} {k : Nat} {f : Addr} {fd : FuncData} {ps : List Str} {sp : Sp} {x : Str} {p pos : Pos} {e : Expr} {es : List Expr} {t : TA} {W : WX}
theorem go_fnX {pins : List (Addr × Obj)} {σ : List (Option V)} {H : Hp} {s : Shared} {Q : VK} {us : List Value} {vs : List V} (F : FnX X.prog X.w X.K X.mg X.base k f fd ps sp) (hg : X.A.guards = some []) (hr : Room k X.A) (hb : Binds X.K fd ps [])
    (tk : Takes X W) (I : Inv X pins σ H s) (r : Vals vs us) (h : sp vs H Q fun cls d H' => W cls d σ H') : wpAny (model X.prog X.w) X.A (call (.ref f) us) (EP X pins σ Q) X.xe s := by
  have n1 : (us ++ []).length = ps.length := by rw [List.append_nil, ← r.length]; exact F.cnt _ _ _ _ h
  have bt := hb s us I.kIn n1
  rw [List.append_nil] at bt
  apply wpAny_call
  refine codeAny_mono (F.does X.A X.stack s H ⟨us, []⟩ us vs Q _ hg hr I.env0 bt r h) ?_
  intro res s' hq
  match res, hq with
  | .ok (.ret u), hq => exact I.after hq
  | .ok .next, hq => exact (show False from hq).elim
  | .ok .brk, hq => exact (show False from hq).elim
  | .ok .cont, hq => exact (show False from hq).elim
  | .error ex, hq => exact tk ex s' (XE.of_call I (fun _ _ _ h => h) hq)
/-- a call that may raise: what is raised goes to the wish that the context takes -/
theorem pe_callX (F : FnX X.prog X.w X.K X.mg X.base k f fd ps sp) (hg : X.A.guards = some []) (hr : Room k X.A) (tk : Takes X W) (gl : Gl X x) (hm : X.mg x = some (.ref f)) (hk : PySem.W.keepIn X.K (.ref f) = true) (hb : Binds X.K fd ps [])
    (ha : PA X (e :: es) t) (hdb : (x == ("__debug__" : Str)) = false := by decide) (he : starEach (e :: es) X.env = (false, eval e X.env) :: starEach es X.env := by rfl) (hpl : (backTo pos (starEach es X.env)).any (·.1) = false := by rfl) :
    PE X (.Call (.Name x p) (e :: es) [] pos) (fun σ H Q => t σ H fun vs H1 => sp vs H1 Q fun cls d H' => W cls d σ H') := by
  constructor
  intro pins s σ H Q I h
  apply wpAny_Call_Name_kw
  apply ld_glob I gl hm _ hdb
  apply PySem.W.callWith_K (h₀ := X.base) I.ok.mod.kin hk _ he hpl
  refine thn (ha.run pos pins s σ H _ I h) ?_
  rintro us s1 ⟨vs, H1, I1, r, q⟩
  exact ⟨I1.kIn, go_fnX F hg hr hb tk I1 r q⟩
end
end DL

set_option maxRecDepth 100000
namespace DL
open PySem PySem.Spec PyProof.Rows L2
/-! ### exceptions over D: an own class with one field -/
/-- of a class, with a field and its value -/
abbrev DEx := Str → Str → D → DSt → Mem → Prop
def XRel (mg : Str → Option Value) (K : PySem.W.Frag) (bx : List Addr) (M : Addr → Prop) (H : Hp) (cn f : Str) (x : D) (cls : Value) (d : Option Addr) : Prop :=
  ∃ (C dd : Addr) (v : V), mg cn = some (.ref C) ∧ cls = .ref C ∧ d = some dd ∧ ¬ M dd ∧ H dd = some (.xd [(f, v)]) ∧ Rp K bx M H x v
def LkX (mg : Str → Option Value) (G : Gm) (Ex : DEx) (W : WX) : Prop :=
  ∀ M σ H σd μ cn f x cls d, SR G M σ H σd μ → XRel mg G.K G.bx M H cn f x cls d → Ex cn f x σd μ → W cls d σ H
abbrev DTSX := DEnds → DEx → DSt → Mem → Prop
structure DSX (X : Cx) (st : Stmt) (t : DTSX) : Prop where
  ex : ∀ W : WX, Takes X W → ∃ ts : TS, PS X st ts ∧ ∀ (G : Gm) (M : Addr → Prop) (σ : L2.St) (H : Hp) (σd : DSt) (μ : Mem) (De : DEnds) (Ex : DEx) (E : Ends), G.K = X.K → SR G M σ H σd μ → t De Ex σd μ → Lk G De E → LkX X.mg G Ex W → ts E σ H
structure DSXs (X : Cx) (st : List Stmt) (t : DTSX) : Prop where
  ex : ∀ W : WX, Takes X W → ∃ ts : TS, PSs X st ts ∧ ∀ (G : Gm) (M : Addr → Prop) (σ : L2.St) (H : Hp) (σd : DSt) (μ : Mem) (De : DEnds) (Ex : DEx) (E : Ends), G.K = X.K → SR G M σ H σd μ → t De Ex σd μ → Lk G De E → LkX X.mg G Ex W → ts E σ H
section
variable {X : Cx} {st : Stmt} {sts : List Stmt} {u u' : DTSX} {t : DTS} {pos : Pos}
/-- what raises nothing -/
def dPure (t : DTS) : DTSX := fun De _ => t De
theorem dsx_of (h : DS X st t) : DSX X st (dPure t) := ⟨fun W tk => by
  obtain ⟨ts, p, h⟩ := h.ex
  exact ⟨ts, p, fun G M σ H σd μ De Ex E hK S q L _ => h G M σ H σd μ De E hK S q L⟩⟩
theorem dsxs_of (h : DSs X sts t) : DSXs X sts (dPure t) := ⟨fun W tk => by
  obtain ⟨ts, p, h⟩ := h.ex
  exact ⟨ts, p, fun G M σ H σd μ De Ex E hK S q L _ => h G M σ H σd μ De E hK S q L⟩⟩
theorem dsxs_one (h : DSX X st u) : DSXs X [st] u := ⟨fun W tk => by
  obtain ⟨ts, p, h⟩ := h.ex W tk
  exact ⟨_, pss_one p, h⟩⟩
def dSeqX (t u : DTSX) : DTSX := fun De Ex σd μ => t { nx := u De Ex, rt := De.rt, bk := De.bk, ct := De.ct } Ex σd μ
theorem dsxs_cons (h : DSX X st u) (h' : DSXs X sts u') : DSXs X (st :: sts) (dSeqX u u') := ⟨fun W tk => by
  obtain ⟨ts, p, h⟩ := h.ex W tk
  obtain ⟨ts', p', h'⟩ := h'.ex W tk
  refine ⟨_, pss_cons p p', fun G M σ H σd μ De Ex E hK S q L LX => ?_⟩
  exact h G M σ H σd μ _ Ex _ hK S q ⟨fun M σ H σd μ S q => h' G M σ H σd μ De Ex E hK S q L LX, L.rt, L.bk, L.ct⟩ LX⟩
def dIfX (tc : DTT) (u u' : DTSX) : DTSX := fun De Ex σd μ => tc σd μ fun b μ1 => if b = true then u De Ex σd μ1 else u' De Ex σd μ1
theorem dsx_if {c : Expr} {x y : List Stmt} {tc : DTT} (hc : DT X c tc) (ha : DSXs X x u) (hb : DSXs X y u') : DSX X (.If c x y pos) (dIfX tc u u') := ⟨fun W tk => by
  obtain ⟨tc, p, h⟩ := hc.ex
  obtain ⟨t1, p1, h1⟩ := ha.ex W tk
  obtain ⟨t2, p2, h2⟩ := hb.ex W tk
  refine ⟨_, ps_if p p1 p2, fun G M σ H σd μ De Ex E hK S q L LX => ?_⟩
  refine h G M σ H σd μ _ _ hK S q fun b H1 μ1 S1 q1 => ?_
  cases b with
  | true => rw [if_pos rfl] at q1 ⊢; exact h1 G M σ H1 σd μ1 De Ex E hK S1 q1 L LX
  | false => rw [if_neg (by decide)] at q1 ⊢; exact h2 G M σ H1 σd μ1 De Ex E hK S1 q1 L LX⟩
theorem rps1X {K : PySem.W.Frag} {bx : List Addr} {M : Addr → Prop} {H : Hp} {x : D} {vs : List V} (r : Rps K bx M H [x] vs) : ∃ v, vs = [v] ∧ Rp K bx M H x v := by
  obtain ⟨v, ws, rfl, rv, rn⟩ := r
  exact ⟨v, by rw [show ws = [] from rn], rv⟩
/-- an own exception is made of one value -/
def tMkX (C : Addr) (f : Str) (ta : TA) : L2.St → Hp → XK → Prop := fun σ H Q => ta σ H fun vs H1 => ∃ v, vs = [v] ∧ ∀ d, H1 d = none → Q (.ref C) (some d) (upd H1 d (.xd [(f, v)]))
def dRaiseX (cn f : Str) (ta : DTA) : DTSX := fun _ Ex σd μ => ta σd μ fun ds μ1 => ∃ x, ds = [x] ∧ Ex cn f x σd μ1
theorem dsx_raise {e a : Expr} {ta : DTA} {C : Addr} {cn f : Str} (hc : X.calm = true) (hC : X.mg cn = some (.ref C)) (ha : DA X [a] ta) (hp : ∀ te : TA, PA X [a] te → PMk X e (tMkX C f te)) : DSX X (.Raise (some e) none pos) (dRaiseX cn f ta) := ⟨fun W tk => by
  obtain ⟨te, p, h⟩ := ha.ex
  refine ⟨_, ps_raise hc tk (hp te p), fun G M σ H σd μ De Ex E hK S q L LX => ?_⟩
  refine h G M σ H σd μ _ _ hK S q fun vs H1 ds μ1 S1 r1 q1 => ?_
  obtain ⟨x, rfl, q1⟩ := q1
  obtain ⟨v, rfl, rv⟩ := rps1X r1
  refine ⟨v, rfl, fun d hd => ?_⟩
  have k := S1.kpNew (o := .xd [(f, v)]) hd
  exact LX _ _ _ _ _ cn f x _ _ (S1.new hd) ⟨C, d, v, hC, rfl, rfl, (fun m => absurd hd (by obtain ⟨o, e⟩ := S1.mt d m; rw [e]; simp)), upd_same, Rp.stay k _ _ rv⟩ q1⟩
end
end DL

set_option maxRecDepth 100000
namespace DL
open PySem PySem.Spec PyProof.Rows L2
/-! ### contracts of defs that may raise -/
/-- of a def: the class, its field and the value -/
abbrev DExF := Str → Str → D → Mem → Prop
abbrev DSpX := List D → Mem → (D → Mem → Prop) → DExF → Prop
def spX (K : PySem.W.Frag) (mg : Str → Option Value) (F : DSpX) : Sp := fun vs H Q E => ∃ (bx : List Addr) (M : Addr → Prop) (ds : List D) (μ : Mem) (Gd : D → Mem → Prop) (Ex : DExF),
  SR ⟨K, bx, M, H, []⟩ M [] H [] μ ∧ Rps K bx M H ds vs ∧ F ds μ Gd Ex ∧ (∀ v H' d μ', Aft K bx M H H' μ' → Rp K bx M H' d v → Gd d μ' → Q v H') ∧
  ∀ cn f x cls d H' μ', Aft K bx M H H' μ' → XRel mg K bx M H' cn f x cls d → Ex cn f x μ' → E cls d H'
def HasX (P : Program) (w : World) (K : PySem.W.Frag) (mg : Str → Option Value) (base : Heap) (k : Nat) (x : Str) (ps : List Str) (F : DSpX) : Prop :=
  ∃ (f : Addr) (fd : FuncData), mg x = some (.ref f) ∧ PySem.W.keepIn K (.ref f) = true ∧ (∃ oc od osl, K.lookup f = some ⟨oc, od, .func fd, osl⟩) ∧ (∀ us : List Value, us.length = ps.length → bindArgs fd ⟨us, []⟩ = pure (ps.zip us)) ∧ FnX P w K mg base k f fd ps (spX K mg F)
section
variable {P : Program} {w : World} {K : PySem.W.Frag} {mg : Str → Option Value} {base : Heap}
abbrev bXx (P : Program) (w : World) (K : PySem.W.Frag) (mg : Str → Option Value) (base : Heap) (N : List Str) (qual : Str) (st : Stmt) (f : Addr) (cdv : Value) (A : Around) (out : List Env) (s : Shared) (H : Hp) (E : XK) : Cx :=
  cxOf (CX P w) P w K mg base N qual (defScope st) f cdv A out s H E
theorem okDX {x qual : Str} {st : Stmt} {f : Addr} {fd : FuncData} {N ps : List Str} {k : Nat} {F : DSpX} (Fu : Fun K x qual st f fd) (S : FnScope N ps (defScope st)) (cnt : ∀ ds μ Gd Ex, F ds μ Gd Ex → ds.length = ps.length)
    (bd : ∀ (cdv : Value) (A : Around) (out : List Env) (s : Shared) (H : Hp) (E : XK), (bXx P w K mg base N qual st f cdv A out s H E).A.guards = some [] → Room k (bXx P w K mg base N qual st f cdv A out s H E).A →
      ∃ t, DSXs (bXx P w K mg base N qual st f cdv A out s H E) (defBody st) t ∧ ∀ ds μ Gd Ex, F ds μ Gd Ex → t { nx := fun _ μ' => Gd .non μ', rt := Gd } (fun cn f x _ μ' => Ex cn f x μ') (startD N.length ds) μ) : FnX P w K mg base (k + 1) f fd ps (spX K mg F) := by
  refine fnX_of Fu S (fun vs H Q E h => ?_) fun cdv A out s H vs Q E hg hr h tk => ?_
  · obtain ⟨bx, M, ds, μ, Gd, Ex, S0, r, q, _⟩ := h
    rw [r.len]; exact cnt _ _ _ _ q
  · obtain ⟨bx, M, ds, μ, Gd, Ex, S0, r, q, fin, finx⟩ := h
    obtain ⟨t, hd, ht⟩ := bd cdv A out s H E hg hr
    obtain ⟨ts, p, snd⟩ := hd.ex _ tk
    refine ⟨ts, p, ?_⟩
    refine snd ⟨K, bx, M, H, []⟩ M (start N vs) H _ μ _ (fun cn f x _ μ' => Ex cn f x μ') _ rfl (start_sr S0 r) (ht _ _ _ _ q) ⟨?_, ?_, fun _ _ _ _ _ _ z => z.elim, fun _ _ _ _ _ _ z => z.elim⟩ ?_
    · intro M' σ' H' σd' μ' S' q'
      exact fin .non H' .non μ' ⟨S'.keep, S'.blen, fun i a l e1 e2 => by
        obtain ⟨xs, h1, h2⟩ := S'.box i a l e1 e2
        exact ⟨xs, h1, Rps.stay (fun a o m e => ⟨e, fun z => m (S'.m0 a z)⟩) _ _ h2⟩⟩ rfl q'
    · intro M' σ' H' σd' μ' v d S' r' q'
      have k : Kp M' M H' H' := fun a o m e => ⟨e, fun z => m (S'.m0 a z)⟩
      exact fin v H' d μ' ⟨S'.keep, S'.blen, fun i a l e1 e2 => by
        obtain ⟨xs, h1, h2⟩ := S'.box i a l e1 e2
        exact ⟨xs, h1, Rps.stay k _ _ h2⟩⟩ (Rp.stay k _ _ r') q'
    · intro M' σ' H' σd' μ' cn fl x cls d S' xr q'
      have k : Kp M' M H' H' := fun a o m e => ⟨e, fun z => m (S'.m0 a z)⟩
      obtain ⟨C, dd, v, h1, h2, h3, hm, h4, h5⟩ := xr
      exact finx cn fl x cls d H' μ' ⟨S'.keep, S'.blen, fun i a l e1 e2 => by
        obtain ⟨xs, h1, h2⟩ := S'.box i a l e1 e2
        exact ⟨xs, h1, Rps.stay k _ _ h2⟩⟩ ⟨C, dd, v, h1, h2, h3, fun m => hm (S'.m0 dd m), h4, Rp.stay k _ _ h5⟩ q'
theorem okHX {x : Str} {st : Stmt} {N ps : List Str} {k : Nat} {F : DSpX} {t : DTSX} (D0 : Dfn K mg x st ps) (S : FnScope N ps (defScope st)) (cnt : ∀ ds μ Gd Ex, F ds μ Gd Ex → ds.length = ps.length)
    (bd : ∀ (f : Addr) (cdv : Value) (A : Around) (out : List Env) (s : Shared) (H : Hp) (E : XK), (bXx P w K mg base N x st f cdv A out s H E).A.guards = some [] → Room k (bXx P w K mg base N x st f cdv A out s H E).A →
      DSXs (bXx P w K mg base N x st f cdv A out s H E) (defBody st) t) (ht : ∀ ds μ Gd Ex, F ds μ Gd Ex → t { nx := fun _ μ' => Gd .non μ', rt := Gd } (fun cn f x _ μ' => Ex cn f x μ') (startD N.length ds) μ) : HasX P w K mg base (k + 1) x ps F := by
  obtain ⟨f, fd, g1, Fu, b1⟩ := D0
  obtain ⟨oc, od, kV, doc, pm, an, cdv, ct, osl, e1, l1, c1⟩ := Fu.ex
  exact ⟨f, fd, g1, Fu.kp, ⟨oc, od, osl, l1⟩, b1, okDX Fu S cnt fun cdv A out s H E hg hr => ⟨t, bd f cdv A out s H E hg hr, ht⟩⟩
end
section
variable {X : Cx} {k : Nat} {f : Addr} {fd : FuncData} {ps : List Str} {F : DSpX} {x : Str} {p pos : Pos} {es : List Expr} {e tg : Expr} {tr : DTA} {g : DTG}
/-- x = f(..), of an f that may raise -/
def dAsgX (F : DSpX) (tr : DTA) (g : DTG) : DTSX := fun De Ex σd μ => tr σd μ fun ds μ1 => F ds μ1 (fun d μ2 => g d σd μ2 De.nx) fun cn f x μ' => Ex cn f x σd μ'
theorem dsx_asgCall (Fn : FnX X.prog X.w X.K X.mg X.base k f fd ps (spX X.K X.mg F)) (hg : X.A.guards = some []) (hr : Room k X.A) (gl : Gl X x) (hm : X.mg x = some (.ref f)) (hk : PySem.W.keepIn X.K (.ref f) = true) (hb : Binds X.K fd ps [])
    (ha : DA X (e :: es) tr) (hG : DG X tg g) (hp : ∀ te g', PE X (.Call (.Name x p) (e :: es) [] p) te → PG X tg g' → PS X (.Assign [tg] (.Call (.Name x p) (e :: es) [] p) pos) (tAsg te g'))
    (hdb : (x == ("__debug__" : Str)) = false := by decide) (he : starEach (e :: es) X.env = (false, eval e X.env) :: starEach es X.env := by rfl) (hpl : (backTo p (starEach es X.env)).any (·.1) = false := by rfl) :
    DSX X (.Assign [tg] (.Call (.Name x p) (e :: es) [] p) pos) (dAsgX F tr g) := ⟨fun W tk => by
  obtain ⟨te, pa, h⟩ := ha.ex
  obtain ⟨g', pg, h'⟩ := hG.ex
  refine ⟨_, hp _ _ (pe_callX Fn hg hr tk gl hm hk hb pa hdb he hpl) pg, fun G M σ H σd μ De Ex E hK S q L LX => ?_⟩
  refine h G M σ H σd μ _ _ hK S q fun vs H1 ds μ1 S1 r1 q1 => ?_
  refine ⟨G.bx, M, ds, μ1, _, fun cn f x μ' => Ex cn f x σd μ', by rw [← hK]; exact S1.entry, by rw [← hK]; exact r1, q1, fun v H' d μ' A r q => ?_, fun cn fl y cls d H' μ' A xr q => ?_⟩
  · rw [← hK] at A r
    exact h' G M σ H' σd μ' d v _ _ hK (S1.after A) r q fun σ' H' σd' μ' S' q' => L.nx _ _ _ _ _ S' q'
  · rw [← hK] at A xr
    exact LX _ _ _ _ _ cn fl y cls d (S1.after A) xr q⟩
end
end DL

set_option maxRecDepth 100000
namespace DL
open PySem PySem.Spec PyProof.Rows L2
/-! ### try: .. except x as n: .. -/
/-- a handler's suite: a the exception, dd its dict, cn its class: a def's text like any other, in the context of the suite; the slot holds .exc a dd f x -/
abbrev DTH := Addr → Addr → Str → DTS
def DSH (X : Cx) (st : List Stmt) (t : DTH) : Prop :=
  ∀ (a : Addr) (oe : Obj) (cls : Value) (dd : Addr) (pn : List (Addr × Obj)) (cn : Str), Zc cls (some dd) oe → (∃ vs, oe.data = .fields vs) → X.mg cn = some cls → DSs (X.suite a ((a, oe) :: pn)) st (t a dd cn)
/-- the body's wish and the suite's, by what they mean -/
def tbS (X : Cx) (u : DTSX) (W : WX) : TS := fun E σ H => ∃ (G : Gm) (M : Addr → Prop) (σd : DSt) (μ : Mem) (De : DEnds) (Ex : DEx), G.K = X.K ∧ SR G M σ H σd μ ∧ u De Ex σd μ ∧ Lk G De E ∧ LkX X.mg G Ex W
def thS (X : Cx) (t : DTH) (a : Addr) (cls : Value) (d : Option Addr) : TS := fun E σ H => ∃ (G : Gm) (M : Addr → Prop) (σd : DSt) (μ : Mem) (De : DEnds) (cn : Str) (dd : Addr), d = some dd ∧ X.mg cn = some cls ∧ G.K = X.K ∧ SR G M σ H σd μ ∧ t a dd cn De σd μ ∧ Lk G De E
/-- mt tells for each class that may come whether the clause takes it -/
def dTry (i : Nat) (mt : Str → Option Bool) (u : DTSX) (t : DTH) : DTS := fun De σd μ =>
  u De (fun cn f x σ1 μ1 => mt cn = some true ∧ ∀ a dd, t a dd cn { nx := fun σ' μ' => De.nx (σ'.set i none) μ', rt := De.rt, bk := fun σ' μ' => De.bk (σ'.set i none) μ', ct := fun σ' μ' => De.ct (σ'.set i none) μ' } (σ1.set i (some (.exc a dd f x))) μ1) σd μ
section
variable {X : Cx} {x n : Str} {c : Value} {i : Nat} {body suite : List Stmt} {b₀ : Stmt} {np pos pos' : Pos} {u : DTSX} {t : DTH} {mt : Str → Option Bool}
theorem SR.forget {G : Gm} {M : Addr → Prop} {σ : L2.St} {H : Hp} {σd : DSt} {μ : Mem} (S : SR G M σ H σd μ) (i : Nat) : SR G M (σ.set i none) H (σd.set i none) μ := by
  refine ⟨by rw [List.length_set, List.length_set]; exact S.len, fun j d e => ?_, fun j j' p l l' e1 e2 e3 e4 => ?_, S.blen, S.box, S.keep, S.m0, S.fr, S.mt, S.nd, S.bm, S.m0t⟩
  · by_cases hj : i = j
    · subst hj
      rw [List.getElem?_set_self'] at e
      cases q : σd[i]? with
      | none => rw [q] at e; cases e
      | some z => rw [q] at e; cases e
    · rw [List.getElem?_set_ne hj] at e
      rw [List.getElem?_set_ne hj]
      exact S.slot j d e
  · have ne : ∀ {j : Nat} {l : List D}, (σd.set i none)[j]? = some (some (.own l)) → i ≠ j := fun {j l} e z => by
      subst z
      rw [List.getElem?_set_self'] at e
      cases q : σd[i]? with
      | none => rw [q] at e; cases e
      | some z => rw [q] at e; cases e
    have n1 := ne e1
    have n2 := ne e2
    rw [List.getElem?_set_ne n1] at e1 e3
    rw [List.getElem?_set_ne n2] at e2 e4
    exact S.dist j j' p l l' e1 e2 e3 e4
theorem ds_try (hs : X.stack = X.env :: X.outer) (hf : X.env.frame = some X.env.locals) (hN : X.N.Nodup) (hi : X.N[i]? = some n) (hln : X.env.kindOf n = some .local) (hc : Names X x c)
    (hm : ∀ cn C, mt cn = some true → X.mg cn = some (.ref C) → PySem.W.exmOne X.K (.ref C) c = some true)
    (hb : ∀ (pn : List (Addr × Obj)) (xe : Value → Shared → Prop), DSXs (X.tr pn xe) body u) (hsu : DSH X (b₀ :: suite) t) :
    DS X (.Try body [.ExceptHandler (some (.Name x np)) (some n) (b₀ :: suite) pos'] [] [] pos) (dTry i mt u t) := by
  refine ⟨_, ps_try_as (tb := tbS X u) (ts := thS X t) (Wout := fun _ _ _ _ => False) hs hf hN hi hln hc (fun v s' ⟨a, B, sI, pins, σ, H, cls, d, e, I, nb, up, sky, na, os, ag, w⟩ => w.elim) (fun W pn xe tk _ => ?_) (fun a oe cls d pn hz hd => ?_), fun G M σ H σd μ De E hK S q L => ?_⟩
  · obtain ⟨ts, p, h⟩ := (hb pn xe).ex W tk
    exact ⟨fun pins s σ H D I ⟨G, M, σd, μ, De, Ex, hK, S, q, L, LX⟩ => p.run pins s σ H D I (h G M σ H σd μ De Ex D hK S q L LX)⟩
  · refine ⟨fun pins s σ H D I ⟨G, M, σd, μ, De, cn, dd, ed, hmg, hK, S, q, L⟩ => ?_⟩
    subst ed
    obtain ⟨ts, p, h⟩ := (hsu a oe cls dd pn cn hz hd hmg).ex
    exact p.run pins s σ H D I (h G M σ H σd μ De D hK S q L)
  · refine ⟨G, M, σd, μ, De, _, hK, S, q, L, ?_⟩
    intro M1 σ1 H1 σd1 μ1 cn f y cls d S1 xr hq
    obtain ⟨C, dd, v, h1, rfl, rfl, hmd, h4, h5⟩ := xr
    obtain ⟨hmt, hq⟩ := hq
    refine ⟨true, hm cn C hmt h1, fun _ a na => ?_, fun z => by cases z⟩
    have S3 := S1.set i (d := .exc a dd f y) (v := .ref a) ⟨rfl, hmd, v, h4, h5⟩
    exact ⟨G, M1, _, μ1, _, cn, dd, rfl, h1, hK, S3, hq a dd, ⟨fun M' σ' H' σd' μ' S' q' => L.nx _ _ _ _ _ (S'.forget i) q', fun M' σ' H' σd' μ' v' d' S' r' q' => L.rt _ _ _ _ _ _ _ S' r' q', fun M' σ' H' σd' μ' S' q' => L.bk _ _ _ _ _ (S'.forget i) q', fun M' σ' H' σd' μ' S' q' => L.ct _ _ _ _ _ (S'.forget i) q'⟩⟩
end
end DL

set_option maxRecDepth 100000
namespace DL
open PySem PySem.Spec PyProof.Rows L2
/-! ### the field of a caught exception -/
def dXf (a dd : Addr) (cn cn0 f : Str) (te : DTE) : DTE := fun σd μ Q => te σd μ fun d μ1 => ∃ x, d = .exc a dd f x ∧ cn = cn0 ∧ Q x μ1
theorem de_xf {X : Cx} {a C : Addr} {oe : Obj} {cls : Value} {dd : Addr} {pn : List (Addr × Obj)} {e : Expr} {te : DTE} {pos : Pos} {f cn cn0 : Str} (T : XfC X.K C) (hno : PySem.W.findIn X.K (.ref C) f = some none)
    (hC : X.mg cn0 = some (.ref C)) (hz : Zc cls (some dd) oe) (hf : ∃ vs, oe.data = .fields vs) (hcn : X.mg cn = some cls) (he : DE (X.suite a ((a, oe) :: pn)) e te) (hb : attributeBase e f X.env (eval e X.env) = eval e X.env := by rfl) :
    DE (X.suite a ((a, oe) :: pn)) (.Attribute e f pos) (dXf a dd cn cn0 f te) := by
  obtain ⟨t, p, h⟩ := he.ex
  refine ⟨_, pe_xf T hno hz hf p hb, fun G M σ H σd μ Q R hK S q k => ?_⟩
  refine h G M σ H σd μ _ _ hK S q fun v H1 d μ1 S1 r1 q1 => ?_
  obtain ⟨x, rfl, rfl, q1⟩ := q1
  obtain ⟨e1, hm, w, h1, h2⟩ := r1
  rw [hC] at hcn
  cases hcn
  exact ⟨e1, rfl, dd, [(f, w)], w, rfl, h1, by simp [List.lookup], k _ _ _ _ S1 h2 q1⟩
end DL

set_option maxRecDepth 100000
namespace DL
open PySem PySem.Spec PyProof.Rows L2 PySem.HandSPX PySem.Builtin PySem.Builtin.ObjectAttr
/-! ### own exceptions that keep one value: class N(Base): def __init__(self, f): self.f = f -/
def xA (f : Str) (p1 p2 : Pos) : Arguments := ⟨[], [⟨"self", none, p1⟩, ⟨f, none, p2⟩], none, [], [], none, []⟩
def xB (f : Str) (q1 q2 q3 q4 : Pos) : List Stmt := [.Assign [.Attribute (.Name "self" q1) f q2] (.Name f q3) q4]
def xS (f : Str) : Scope := ⟨.function, [((PySem.Str.ofString "self"), .local), (f, .local)], false, false, []⟩
/-- the built-in class below: its facts -/
structure XBase (bm : List Value) (newId : String) : Prop where
  ex : ∃ (B initId : String) (bmB : List Value), ExcBaseFacts B newId initId bmB ∧ ∀ X : String, bm.contains (.type X) = bmB.contains (.type X)
  pass : ∀ self : Value, refuseLoop self "__setattr__" bm = pure ()
  ob : bm.contains (.type "object") = true
def leTail : List Value := [.type "LookupError", .type "Exception", .type "BaseException", .type "object"]
def xBaseB (bm : List Value) (n : String) : Bool := (PySem.W.excTail veTail bm && n == "ValueError.__new__") || (PySem.W.excTail leTail bm && n == "LookupError.__new__")
theorem xBase_of {bm : List Value} {n : String} (h : xBaseB bm n = true) : XBase bm n := by
  unfold xBaseB at h
  rw [Bool.or_eq_true, Bool.and_eq_true, Bool.and_eq_true, beq_iff_eq, beq_iff_eq] at h
  rcases h with ⟨h, rfl⟩ | ⟨h, rfl⟩
  · exact ⟨⟨_, _, _, F.excBase_ValueError, fun X => PySem.W.excTail_contains X _ h⟩, fun s => PySem.W.excTail_pass s (F.store_ValueError.passes s) _ h, (PySem.W.excTail_contains "object" _ h).trans (by decide +kernel)⟩
  · exact ⟨⟨_, _, _, F.excBase_LookupError, fun X => PySem.W.excTail_contains X _ h⟩, fun s => PySem.W.excTail_pass s (F.store_LookupError.passes s) _ h, (PySem.W.excTail_contains "object" _ h).trans (by decide +kernel)⟩
/-- what the written part says of the class n, at C, its field f, its __init__ at fI -/
structure XTxt (K : PySem.W.Frag) (mg : Str → Option Value) (n f : Str) (C fI : Addr) : Prop where
  gC : mg n = some (.ref C)
  cls : ∃ nm q N bs bm sn sub ab col dd k0 k1 k2 k3 k5 newId, K.lookup C = some (excClassObj nm q C N bs bm true sn sub ab col dd k0 k1 k2 k3 k5 newId) ∧ XBase bm newId
  sa : PySem.W.findIn K (.ref C) "__setattr__" = some (some (.builtin "object.__setattr__"))
  noF : PySem.W.findIn K (.ref C) f = some none
  iC : PySem.W.findIn K (.ref C) "__init__" = some (some (.ref fI))
  tC : PySem.W.typeIn K (.ref fI) = some (.type "function")
  kC : PySem.W.keepIn K (.ref C) = true
  exC : PySem.W.subIn K (.ref C) (.type "BaseException") = some true
  tyC : PySem.W.typeIn K (.ref C) = some (.type "type")
  nf : ((PySem.Str.ofString "self") == f) = false
  nf' : (f == (PySem.Str.ofString "self")) = false
  nd : (f == ("__debug__" : Str)) = false
  fn : ∃ (oc : Value) (od : Option Addr) (qn : Str) (doc pm : Value) (an : Option Addr) (cdv ct : Value) (osl : Array (Option Value)) (p1 p2 q1 q2 q3 q4 : Pos),
    K.lookup fI = some ⟨oc, od, .func (PySem.W.fnOf "__init__" qn (xA f p1 p2) (xB f q1 q2 q3 q4) (xS f) .none .none doc pm an cdv ct), osl⟩ ∧ PySem.W.codeIn K cdv qn = true ∧
      ∀ x v : Value, bindArgs (PySem.W.fnOf "__init__" qn (xA f p1 p2) (xB f q1 q2 q3 q4) (xS f) .none .none doc pm an cdv ct) ⟨[x, v], []⟩ = pure [((PySem.Str.ofString "self"), x), (f, v)]
section
variable {prog : Program} {w : World} {A : Around} {E : Value → Shared → Prop} {R : Result → Shared → Prop} {s : Shared} {K : PySem.W.Frag} {mg : Str → Option Value} {C fI : Addr} {n f : Str}
theorem x_store (T : XTxt K mg n f C fI) {x t0 : Addr} {v : Value} {hp : Heap} {g : Array GenState} {d : Drawn} {t : Nat} {os : OsState} {tk : Tok} (X : K.In hp) (hx : hp.get? x = some (excO C t0))
    (hq : ∀ h' tk' dx, (∀ b o, b ≠ x → hp.get? b = some o → h'.get? b = some o) → hp.objs.size ≤ dx → dx ≠ x → h'.get? x = some { cls := .ref C, dict := some dx, data := .fields #[.ref t0, .none, .none, .none, .bool false, .none] } →
      h'.Ns1 dx (fun y => if y = f then some v else none) → R (.ok (.ret .none)) ⟨h', g, d, tk', os⟩) :
    codeAny (model prog w) A (.call (.builtin "object.__setattr__") ⟨[.ref x, .str f tk, v], []⟩) R ⟨hp, g, d, t, os⟩ := by
  obtain ⟨nm, q, N, bs, bm, sn, sub, ab, col, dd, k0, k1, k2, k3, k5, newId, hC, hbm⟩ := T.cls
  have hcd : PySem.W.clsIn K C = some { name := nm, bases := bs, mro := .ref C :: bm, ns := N, qualname := q, hasDict := true, slotNames := sn, subclasses := sub, abstract := ab, collection := col, hasDel := false } := by unfold PySem.W.clsIn; rw [hC] <;> rfl
  have I : PySem.W.InstAt hp x (excO C t0) C none := ⟨hx, rfl, rfl, trivial⟩
  have SF := F.store_object
  have hob : (Value.ref C :: bm).contains (.type "object") = true := by rw [List.contains_cons, hbm.ob, Bool.or_true]
  have hxs : x ≠ hp.objs.size := Nat.ne_of_lt (Heap.lt_size hx)
  have sub : PySem.W.Looks (model prog w) hp (isInstance (.ref x) (.type "object")) true := I.type.andThen (PySem.W.looks_mroIn X (by unfold PySem.W.mroIn; rw [hcd, Option.bind_some, if_neg (by simp), hob]))
  refine codeAny_call_builtin SF.slot.plain SF.entry (@PySem.W.check_slot (model prog w) _ _ ⟨hp, g, d, t, os⟩ "object.__setattr__" "object" "__setattr__" (.ref x) [.str f tk, v] [] _ SF.kind SF.split sub (SF.args (.ref x) (.str f tk) v) ?_)
  have hmr : PySem.W.Looks (model prog w) hp (mroOf (.ref C)) (.ref C :: bm) := (PySem.W.looks_clsIn X hcd).andThen .now
  have L3 : PySem.W.Looks (model prog w) hp (storeTaker? none) none := .now
  have hcls := PySem.W.looks_clsIn (M := model prog w) X hcd
  rw [PySem.W.osa_eq, refuse_eq]
  refine wpAny_bind (wpAny_bind (I.type.at (wpAny_bind (hmr.at ?_))))
  rw [refuseLoop_ref, hbm.pass]
  refine wpAny_pure (wpAny_bind (I.type.at (wpAny_bind ((PySem.W.looks_findIn X T.noF).at (wpAny_bind (L3.at ?_))))))
  show wpAny _ _ (Builtin.ObjectAttr.storeInOwnDict (.ref x) (.ref C) (.str f tk) f v false) _ _ _
  unfold Builtin.ObjectAttr.storeInOwnDict Builtin.ObjectAttr.ownDictForStores
  repeat (first | with_reducible refine store_in_new ?_ ?_ | with_reducible refine wpAny_loadPart_at hx ?_ | with_reducible refine hcls.at ?_ | wp_step)
  · exact ⟨_, #[], _, (Heap.get?_update_ne _ _ _ _ hxs.symm).trans (Heap.get?_push_at rfl rfl), rfl, fun e he => absurd he (by simp), fun _ => rfl⟩
  · intro h' tk' hn' hs
    have hx₁ : (hp.push { cls := .type "dict", data := .dict #[] }).get? x = some (excO C t0) := Heap.get?_push_of_some _ hx
    refine hq h' tk' hp.objs.size (fun b o hb ho => ?_) (Nat.le_refl _) hxs.symm ?_ hn'
    · exact (hs.2 b (Nat.ne_of_lt (Heap.lt_size ho))).trans ((Heap.get?_update_ne _ _ _ _ hb).trans (Heap.get?_push_of_some _ ho))
    · exact (hs.2 x hxs).trans (Heap.get?_update_self _ hx₁ rfl)
theorem x_init (T : XTxt K mg n f C fI) {x t0 : Addr} {v : Value} (X : K.In s.heap) (hlim : s.heap.NoLimit) (hx : s.heap.get? x = some (excO C t0)) (hroom : A.depth < recursionLimit)
    (hq : ∀ h' tk dx, (∀ b o, b ≠ x → s.heap.get? b = some o → h'.get? b = some o) → h'.get? x = some { cls := .ref C, dict := some dx, data := .fields #[.ref t0, .none, .none, .none, .bool false, .none] } → s.heap.objs.size ≤ dx → dx ≠ x → h'.Ns1 dx (fun y => if y = f then some v else none) → R (.ok (.ret .none)) { s with heap := h', toks := tk }) :
    codeAny (model prog w) A (.call (.ref fI) ⟨[.ref x, v], []⟩) R s := by
  obtain ⟨oc, od, qn, doc, pm, an, cdv, ct, osl, p1, p2, q1, q2, q3, q4, ho, hcd, hbd⟩ := T.fn
  have nf := T.nf
  have nf' := T.nf'
  have lkf : (xS f).names.lookup f = some .local := by simp [xS, List.lookup, nf']
  have kf : ∀ L a cd, (envOfC qn (xS f) L a cd).kindOf f = some .local := fun _ _ _ => lkf
  have ks : ∀ L a cd, (envOfC qn (xS f) L a cd).kindOf (PySem.Str.ofString "self") = some .local := fun _ _ _ => by show (xS f).names.lookup _ = _; simp [xS, List.lookup]
  refine Att.call_fn (binds := [((PySem.Str.ofString "self"), .ref x), (f, v)]) X hlim ho hcd hroom (BindsTo.of_eq (hbd _ _)) (by simp only [List.all_cons, List.all_nil, lkf]; simp [xS, List.lookup]) (fun s₁ IC => ?_) rfl rfl rfl
  obtain ⟨h₁, tk₁, rfl⟩ := IC.toInCall.same
  have k : ∀ b o, s.heap.get? b = some o → h₁.get? b = some o := IC.toInCall.keep
  have hn := IC.toInCall.ns
  have X₁ : K.In h₁ := X.keeps k
  have hx₁ := k _ _ hx
  have z : s.heap.objs.size < h₁.objs.size := hn.lt
  show wpAny _ _ (execs _ _) _ _ _
  refine wpAny_execs_cons (plainObj_wpAny_Assign_Attribute ?_)
  refine wpAny_Name (wpAny_loadName_local rfl (kf _ _ _) hn (v := v) ?_ ?_) T.nd
  · simp [bindL, envOfC, Env.kindOf, xS, List.lookup, nf, nf']
  refine wpAny_Name (wpAny_loadName_local rfl (ks _ _ _) hn (v := .ref x) ?_ ?_) (by decide)
  · simp [bindL, envOfC, Env.kindOf, xS, List.lookup, nf, nf']
    exact fun z => absurd z (by simpa using nf)
  refine PySem.W.set_plain X₁ (ox := excO C t0) (od := none) ⟨hx₁, rfl, rfl, trivial⟩ T.sa ?_
  refine x_store T X₁ hx₁ (fun h₃ tk₃ dx k₃ dn dne hx₃ hn₃ => ?_)
  show wpAny _ _ (execs _ _) _ _ _
  exact wpAny_execs_nil (hq h₃ tk₃ dx (fun b o hb e => k₃ b o hb (k b o e)) hx₃ (Nat.le_of_lt (Nat.lt_of_lt_of_le z dn)) dne hn₃)
theorem x_made (T : XTxt K mg n f C fI) {v : Value} (X : K.In s.heap) (hlim : s.heap.NoLimit) (hroom : A.depth + 1 < recursionLimit)
    (hq : ∀ h' tk e d oe fv, (∀ b o, s.heap.get? b = some o → h'.get? b = some o) → s.heap.objs.size ≤ e → h'.get? e = some oe → oe.cls = .ref C → oe.dict = some d → oe.data = .fields fv → fv[1]? = some .none →
      s.heap.objs.size ≤ d → d ≠ e → h'.Ns1 d (fun y => if y = f then some v else none) → R (.ok (.ret (.ref e))) { s with heap := h', toks := tk }) :
    codeAny (model prog w) A (.call (.ref C) ⟨[v], []⟩) R s := by
  obtain ⟨nm, q, N, bs, bm, sn, sub, ab, col, dd, k0, k1, k2, k3, k5, newId, hC, hbm⟩ := T.cls
  obtain ⟨B, initId, bmB, FB, hT⟩ := hbm.ex
  obtain ⟨hp, g, dr, tk, os⟩ := s
  have k : ∀ b o, hp.get? b = some o → ((hp.push (PySem.W.kdv_tup [v])).push (excO C hp.objs.size)).get? b = some o := fun b o e => Heap.get?_push_of_some _ (Heap.get?_push_of_some _ e)
  have hget : ((hp.push (PySem.W.kdv_tup [v])).push (excO C hp.objs.size)).get? (hp.objs.size + 1) = some (excO C hp.objs.size) := by heap_get
  have one : [v].length ≤ sizeLine := by rw [sizeLine_eq]; show 1 ≤ _; decide
  obtain ⟨oc, od, qn, doc, pm, an, cdv, ct, osl, p1, p2, q1, q2, q3, q4, ho, hcd, hbd⟩ := T.fn
  refine call_own FB hT (X _ _ hC) (PySem.W.looks_findIn X T.iC) (fun self => PySem.W.bind_fn X self T.tC) one ?_
  refine x_init (s := ⟨(hp.push (PySem.W.kdv_tup [v])).push (excO C hp.objs.size), g, dr, tk, os⟩) T (X.keeps k) (hlim.keeps k) hget ?_ fun h' tk' dx k' hx dn dne hns => ?_
  · show A.depth + 1 < recursionLimit
    exact hroom
  · have old : ∀ b o, hp.get? b = some o → h'.get? b = some o := fun b o e => k' b o (Nat.ne_of_lt (Nat.lt_succ_of_lt (Heap.lt_size e))) (k b o e)
    have z : hp.objs.size + 1 + 1 ≤ dx := by
      first
        | (simpa only [Heap.size_push] using dn)
        | exact dn
        | (have q := dn; rw [Heap.size_push, Heap.size_push] at q; exact q)
    exact ⟨rfl, hq h' tk' (hp.objs.size + 1) dx _ _ old (Nat.le_succ _) hx rfl rfl rfl rfl (Nat.le_trans (Nat.le_trans (Nat.le_succ _) (Nat.le_succ _)) z) dne hns⟩
end
theorem relO_one {v : V} {v' : Value} (r : RelV v v') (f g : Str) : RelO (List.lookup g [(f, v)]) (if g = f then some v' else none) := by
  by_cases hw : g = f
  · subst hw
    rw [if_pos rfl, show List.lookup g [(g, v)] = some v by simp [List.lookup]]
    exact r
  · rw [if_neg hw, show List.lookup g [(f, v)] = none by simp [List.lookup, show (g == f) = false by simpa using hw]]
    trivial
section
variable {X : Cx} {C fI : Addr} {n f : Str}
theorem pmk_x {a : Expr} {ta : TA} {p pos : Pos} {k : Nat} (T : XTxt X.K X.mg n f C fI) (hr : Room k X.A) (ha : PA X [a] ta) (hg : Gl X n := by rfl) (hdb : (n == ("__debug__" : Str)) = false := by decide)
    (he : starEach (a :: []) X.env = (false, eval a X.env) :: starEach [] X.env := by rfl) (hpl : (backTo pos (starEach [] X.env)).any (·.1) = false := by rfl) :
    PMk X (.Call (.Name n p) [a] [] pos) (tMkX C f ta) := by
  intro pins s σ H Q I h
  refine wpAny_Call_Name_kw (ld_glob I hg T.gC ?_ hdb)
  refine PySem.W.callWith_K (h₀ := X.base) I.ok.mod.kin T.kC (thn (ha.run pos pins s σ H _ I h) fun us s1 hh => ?_) he hpl
  obtain ⟨vs, H1, I1, r1, v, ev, q1⟩ := hh
  subst ev
  refine ⟨I1.kIn, ?_⟩
  cases r1 with
  | cons rv rn =>
    rename_i v' us'
    cases rn
    show wpAny _ _ (call (.ref C) [v']) _ _ _
    have hlim := I1.nolimit
    obtain ⟨hp, g, d, t, os⟩ := s1
    refine wpAny_call (x_made T I1.kIn hlim (by have := hr.dp; omega) fun h' tk' e d oe fv kp new hoe hc hd hdat h1 dbig dne hns => ?_)
    show MkP X pins σ Q (.ref e) ⟨h', g, _, tk', os⟩
    obtain ⟨G', g1, g2⟩ := restrict h' fun b => decide (b ≠ e)
    have gk : ∀ b, b ≠ e → G'.get? b = h'.get? b := fun b hb => g1 b (decide_eq_true hb)
    have ge : G'.get? e = none := g2 e (by simp)
    have old : ∀ b o, hp.get? b = some o → G'.get? b = some o := fun b o q => (gk b (Nat.ne_of_lt (Nat.lt_of_lt_of_le (Heap.lt_size q) new))).trans (kp b o q)
    have ob : ObjOk X.prog X.w (upd H1 d (.xd [(f, v)])) G' d (.xd [(f, v)]) := ⟨_, hns.at (fun o q => (gk d dne).trans q), fun g => relO_one rv f g⟩
    have J : Inv X pins σ (upd H1 d (.xd [(f, v)])) ⟨G', g, _, tk', os⟩ := I1.laid (t' := tk') old dbig ob
    refine ⟨e, oe, fv, ⟨G', g, _, tk', os⟩, _, .ref C, some d, rfl, J, fun b o q => ?_, ge, hoe, ⟨hc, hd⟩, hdat, h1, ?_, rfl, I1.bare, raises_own T.exC T.tyC, q1 d (I1.hok.fresh dbig)⟩
    · by_cases hb : b = e
      · have q' : G'.get? b = some o := q
        rw [hb, ge] at q'; cases q'
      · exact (gk b hb).symm.trans q
    · rw [upd_ne (Ne.symm dne)]
      exact I1.hok.fresh new
end
end DL

set_option maxRecDepth 100000
namespace DL
open PySem PySem.Spec PyProof.Rows L2
/-! ### expressions that may raise -/
abbrev DTEX := DEx → DSt → Mem → (D → Mem → Prop) → Prop
abbrev DTAX := DEx → DSt → Mem → (List D → Mem → Prop) → Prop
structure DEX (X : Cx) (e : Expr) (t : DTEX) : Prop where
  ex : ∀ W : WX, Takes X W → ∃ te : TE, PE X e te ∧ ∀ (G : Gm) (M : Addr → Prop) (σ : L2.St) (H : Hp) (σd : DSt) (μ : Mem) (Q : D → Mem → Prop) (Ex : DEx) (R : VK), G.K = X.K → SR G M σ H σd μ → t Ex σd μ Q → LkX X.mg G Ex W →
    (∀ v H' d μ', SR G M σ H' σd μ' → Rp G.K G.bx M H' d v → Q d μ' → R v H') → te σ H R
structure DAX (X : Cx) (es : List Expr) (t : DTAX) : Prop where
  ex : ∀ W : WX, Takes X W → ∃ te : TA, PA X es te ∧ ∀ (G : Gm) (M : Addr → Prop) (σ : L2.St) (H : Hp) (σd : DSt) (μ : Mem) (Q : List D → Mem → Prop) (Ex : DEx) (R : List V → Hp → Prop), G.K = X.K → SR G M σ H σd μ → t Ex σd μ Q → LkX X.mg G Ex W →
    (∀ vs H' ds μ', SR G M σ H' σd μ' → Rps G.K G.bx M H' ds vs → Q ds μ' → R vs H') → te σ H R
theorem LkX.pin {mg : Str → Option Value} {G : Gm} {Ex : DEx} {W : WX} (h : LkX mg G Ex W) (v : V) (d : D) : LkX mg (G.pin v d) Ex W := fun M σ H σd μ cn f x cls dd S xr q =>
  h M σ H σd μ cn f x cls dd S.unpin.1 xr q
section
variable {X : Cx} {e a b : Expr} {es : List Expr} {pos p : Pos} {t : DTE} {ta tb : DTEX} {tr : DTAX} {k : Nat} {ps : List Str} {F : DSpX} {x : Str}
def dE (t : DTE) : DTEX := fun _ => t
def dAE (t : DTA) : DTAX := fun _ => t
theorem dex_of (h : DE X e t) : DEX X e (dE t) := ⟨fun W tk => by
  obtain ⟨te, p, h⟩ := h.ex
  exact ⟨te, p, fun G M σ H σd μ Q Ex R hK S q _ k => h G M σ H σd μ Q R hK S q k⟩⟩
theorem dax_of {t : DTA} (h : DA X es t) : DAX X es (dAE t) := ⟨fun W tk => by
  obtain ⟨te, p, h⟩ := h.ex
  exact ⟨te, p, fun G M σ H σd μ Q Ex R hK S q _ k => h G M σ H σd μ Q R hK S q k⟩⟩
def dConsX (t : DTEX) (tr : DTAX) : DTAX := fun Ex σd μ Q => t Ex σd μ fun d μ1 => tr Ex σd μ1 fun ds μ2 => Q (d :: ds) μ2
theorem dax_cons (ha : DEX X e ta) (hr : DAX X es tr) (hs : starEach (e :: es) X.env = (false, eval e X.env) :: starEach es X.env := by rfl) : DAX X (e :: es) (dConsX ta tr) := ⟨fun W tk => by
  obtain ⟨te, p, h⟩ := ha.ex W tk
  obtain ⟨te', p', h'⟩ := hr.ex W tk
  refine ⟨_, pa_cons p p' hs, fun G M σ H σd μ Q Ex R hK S hq LX k => ?_⟩
  refine h G M σ H σd μ _ Ex _ hK S hq LX fun v H1 d μ1 S1 r1 q1 => ?_
  refine h' (G.pin v d) M σ H1 σd μ1 _ Ex _ hK (S1.pin r1) q1 (LX.pin v d) fun vs H2 ds μ2 S2 r2 q2 => ?_
  obtain ⟨S2', r1'⟩ := S2.unpin
  exact k _ _ (d :: ds) μ2 S2' ⟨v, vs, rfl, r1', r2⟩ q2⟩
def dLstX (t : DTAX) : DTEX := fun Ex σd μ Q => t Ex σd μ fun ds μ1 => ds.length ≤ sizeLine ∧ Q (.lst ds) μ1
theorem dex_lst (h : DAX X es tr) : DEX X (.List es pos) (dLstX tr) := ⟨fun W tk => by
  obtain ⟨te, p, h⟩ := h.ex W tk
  refine ⟨_, pe_lst p, fun G M σ H σd μ Q Ex R hK S hq LX k => ?_⟩
  refine h G M σ H σd μ _ Ex _ hK S hq LX fun vs H1 ds μ1 S1 r1 q1 => ?_
  exact ⟨by rw [r1.len]; exact q1.1, fun p hp => k _ _ _ _ (S1.new hp) (S1.newL hp r1) q1.2⟩⟩
def dTupX (t : DTAX) : DTEX := fun Ex σd μ Q => t Ex σd μ fun ds μ1 => ds.length ≤ sizeLine ∧ Q (.tup ds) μ1
theorem dex_tup {x1} (h : DAX X es tr) : DEX X (.Tuple es x1 pos) (dTupX tr) := ⟨fun W tk => by
  obtain ⟨te, p, h⟩ := h.ex W tk
  refine ⟨_, pe_tup p, fun G M σ H σd μ Q Ex R hK S hq LX k => ?_⟩
  refine h G M σ H σd μ _ Ex _ hK S hq LX fun vs H1 ds μ1 S1 r1 q1 => ?_
  exact ⟨by rw [r1.len]; exact q1.1, fun p hp => k _ _ _ _ (S1.new hp) (S1.newT hp r1) q1.2⟩⟩
/-- a call of a def that may raise -/
def dCallX (F : DSpX) (tr : DTAX) : DTEX := fun Ex σd μ Q => tr Ex σd μ fun ds μ1 => F ds μ1 Q fun cn f x μ' => Ex cn f x σd μ'
theorem dex_call (Hs : HasX X.prog X.w X.K X.mg X.base k x ps F) (hg : X.A.guards = some []) (hr : Room k X.A) (gl : Gl X x) (ha : DAX X (e :: es) tr)
    (hdb : (x == ("__debug__" : Str)) = false := by decide) (he : starEach (e :: es) X.env = (false, eval e X.env) :: starEach es X.env := by rfl) (hpl : (backTo pos (starEach es X.env)).any (·.1) = false := by rfl) :
    DEX X (.Call (.Name x p) (e :: es) [] pos) (dCallX F tr) := ⟨fun W tk => by
  obtain ⟨f, fd, hm, hk, _, hb, Fn⟩ := Hs
  obtain ⟨te, pa, h⟩ := ha.ex W tk
  refine ⟨_, pe_callX Fn hg hr tk gl hm hk (.all hb) pa hdb he hpl, fun G M σ H σd μ Q Ex R hK S q LX kk => ?_⟩
  refine h G M σ H σd μ _ Ex _ hK S q LX fun vs H1 ds μ1 S1 r1 q1 => ?_
  refine ⟨G.bx, M, ds, μ1, _, fun cn f x μ' => Ex cn f x σd μ', by rw [← hK]; exact S1.entry, by rw [← hK]; exact r1, q1, fun v H' d μ' A r q => ?_, fun cn fl y cls d H' μ' A xr q => ?_⟩
  · rw [← hK] at A r
    exact kk v H' d μ' (S1.after A) r q
  · rw [← hK] at A xr
    exact LX _ _ _ _ _ cn fl y cls d (S1.after A) xr q⟩
/-! statements -/
def dAsgE (te : DTEX) (g : DTG) : DTSX := fun De Ex σd μ => te Ex σd μ fun d μ1 => g d σd μ1 De.nx
theorem dsx_asg {tg : Expr} {g : DTG} (he : DEX X e ta) (hg : DG X tg g) (hs : swapsWithSole [tg] e pos.line X.env = pure false := by rfl) (hw : swappedStores [tg] e X.env = pure none := by rfl)
    (h1 : (assignEach [tg] X.env).map (·.2) = [assign tg X.env] := by rfl) : DSX X (.Assign [tg] e pos) (dAsgE ta g) := ⟨fun W tk => by
  obtain ⟨te, p, h⟩ := he.ex W tk
  obtain ⟨g', pg, h'⟩ := hg.ex
  refine ⟨_, ps_asg p pg hs hw h1, fun G M σ H σd μ De Ex E hK S q L LX => ?_⟩
  refine h G M σ H σd μ _ Ex _ hK S q LX fun v H1 d μ1 S1 r1 q1 => ?_
  exact h' G M σ H1 σd μ1 d v _ _ hK S1 r1 q1 fun σ' H' σd' μ' S' q' => L.nx _ _ _ _ _ S' q'⟩
theorem dsx_set {i : Nat} {n : Str} {pos' : Pos} (hN : X.N.Nodup) (hi : X.N[i]? = some n) (hx : Loc X.env.scope n) (he : DEX X e ta) (hs : swapsWith e (some (.Name n pos')) pos.line X.env = pure false := by rfl) (hf : X.fn n = true ∨ X.env.scope.names.lookup n = some .local := by first | exact .inl rfl | exact .inr rfl) :
    DSX X (.Assign [.Name n pos'] e pos) (dAsgE ta (dgName i)) := ⟨fun W tk => by
  obtain ⟨te, p, h⟩ := he.ex W tk
  refine ⟨_, ps_set hN hi hx p hs hf, fun G M σ H σd μ De Ex E hK S q L LX => ?_⟩
  refine h G M σ H σd μ _ Ex _ hK S q LX fun v H1 d μ1 S1 r1 q1 => ?_
  exact L.nx _ _ _ _ _ (S1.set i r1) q1⟩
def dRetE (te : DTEX) : DTSX := fun De Ex σd μ => te Ex σd μ De.rt
theorem dsx_ret (he : DEX X e ta) : DSX X (.Return (some e) pos) (dRetE ta) := ⟨fun W tk => by
  obtain ⟨te, p, h⟩ := he.ex W tk
  refine ⟨_, ps_ret p, fun G M σ H σd μ De Ex E hK S q L LX => ?_⟩
  exact h G M σ H σd μ _ Ex _ hK S q LX fun v H1 d μ1 S1 r1 q1 => L.rt _ _ _ _ _ _ _ S1 r1 q1⟩
def dDropE (te : DTEX) : DTSX := fun De Ex σd μ => te Ex σd μ fun _ μ1 => De.nx σd μ1
theorem dsx_expr (he : DEX X e ta) (hs : swapsWith e none pos.line X.env = pure false := by rfl) : DSX X (.Expr e pos) (dDropE ta) := ⟨fun W tk => by
  obtain ⟨te, p, h⟩ := he.ex W tk
  refine ⟨_, ps_expr p hs, fun G M σ H σd μ De Ex E hK S q L LX => ?_⟩
  exact h G M σ H σd μ _ Ex _ hK S q LX fun v H1 d μ1 S1 r1 q1 => L.nx _ _ _ _ _ S1 q1⟩
end
/-! ### isinstance of a caught exception; tables of classes -/
theorem tab_nil {P : Str → Bool → Prop} : ∀ p ∈ ([] : List (Str × Bool)), P p.1 p.2 := fun _ h => nomatch h
theorem tab_cons {P : Str → Bool → Prop} {n : Str} {b : Bool} {l : List (Str × Bool)} (h : P n b) (r : ∀ p ∈ l, P p.1 p.2) : ∀ p ∈ (n, b) :: l, P p.1 p.2 := fun p hp => by
  rcases List.mem_cons.mp hp with rfl | hp
  · exact h
  · exact r p hp
theorem tab_all {P : Str → Bool → Prop} : ∀ {l : List (Str × Bool)}, (∀ p ∈ l, P p.1 p.2) → ∀ (cn : Str) (b : Bool), l.lookup cn = some b → P cn b
  | [], _, _, _, h => by cases h
  | (n, b0) :: l, r, cn, b, h => by
    rw [List.lookup] at h
    split at h
    · rename_i e
      cases h
      rw [beq_iff_eq.mp e]
      exact r _ (List.mem_cons_self ..)
    · exact tab_all (fun p hp => r p (List.mem_cons_of_mem _ hp)) cn b h
/-- what isinstance asks of the class D -/
structure XIs (K : PySem.W.Frag) (D : Addr) : Prop where
  cl : (PySem.W.clsIn K D).isSome = true
  hg : PySem.W.findIn K (.ref D) "__getattribute__" = some (some (.builtin "BaseException.__getattribute__"))
  hk : PySem.W.findIn K (.ref D) "__getattr__" = some none
  hs : PySem.W.subIn K (.ref D) (.type "BaseException") = some true
  ha : PySem.W.findIn K (.ref D) "__class__" = some (some (.builtin "object.__class__"))
  hn : PySem.W.specialIn K (.builtin "object.__class__") "__get__" = some (some (.builtin "getset_descriptor.__get__"))
  ht : PySem.W.takesIn K (.builtin "object.__class__") = some true
  hm : PySem.W.mroIn K D (.type "object") = some true
theorem call_isX {X : Cx} {a D dd : Addr} {oe : Obj} {pn : List (Addr × Obj)} {c : V} {cv : Value} {b : Bool} (C : XIs X.K D) (hz : Zc (.ref D) (some dd) oe) (hf : ∃ vs, oe.data = .fields vs) (hcv : ∀ u, RelV c u → u = cv) (hk : PySem.W.kitOne X.K (.ref D) cv = some b) :
    CallR (X.suite a ((a, oe) :: pn)) (.builtin "isinstance") (fun xs H Q => xs = [.ref a, c] ∧ (∃ fs, H dd = some (.xd fs)) ∧ Q (.bl b) H) := by
  intro pins s σ H xs us Q I r h
  obtain ⟨rfl, ⟨fs, ea⟩, q⟩ := h
  cases r with
  | cons rx rr =>
    cases rr with
    | cons rt rr =>
      cases rr
      cases rx
      have ec := hcv _ rt
      subst ec
      obtain ⟨ha, _⟩ := I.pin (a, oe) (List.mem_append.mpr (.inl List.mem_cons_self))
      obtain ⟨vs, hd⟩ := hf
      have hx : ObjOk X.prog X.w H s.heap dd (.xd fs) := I.hok dd _ ea
      obtain ⟨mA, hns, hr⟩ := hx
      obtain ⟨od, ho, hl⟩ := lookIn_ns hns
      have J : PySem.W.InstAt s.heap a oe D (some od) := ⟨ha, hz.1, by unfold PySem.W.notCls; rw [hd] <;> rfl, by rw [hz.2]; exact ho⟩
      exact PySem.W.kia_one (PySem.W.kitx_exc C.cl C.hg C.hk C.hs C.ha C.hn C.ht C.hm) I.kIn J hk (fun z => nomatch z) fun tk => ⟨.bl b, H, I.kept (t' := tk) fun _ _ z => z, rfl, q⟩
/-- isinstance(e, C): tab tells it for each class that may have come -/
def dIsX (a dd : Addr) (cn : Str) (tab : List (Str × Bool)) (te : DTE) : DTE := fun σd μ Q => te σd μ fun d μ1 => ∃ f x b, d = .exc a dd f x ∧ tab.lookup cn = some b ∧ Q (.bl b) μ1
theorem de_isX {X : Cx} {a dd : Addr} {oe : Obj} {cls : Value} {pn : List (Addr × Obj)} {cn : Str} {e ce : Expr} {te : DTE} {p pos : Pos} {c : V} {cv : Value} {tab : List (Str × Bool)} (hz : Zc cls (some dd) oe) (hf : ∃ vs, oe.data = .fields vs) (hcn : X.mg cn = some cls)
    (hT : ∀ p ∈ tab, ∃ D, X.mg p.1 = some (.ref D) ∧ XIs X.K D ∧ PySem.W.kitOne X.K (.ref D) cv = some p.2) (hc : PE (X.suite a ((a, oe) :: pn)) ce (tC c)) (hcv : ∀ u, RelV c u → u = cv)
    (hg : Gl X "isinstance") (hm : X.mg "isinstance" = none) (he : DE (X.suite a ((a, oe) :: pn)) e te)
    (hs1 : starEach (e :: [ce]) X.env = (false, eval e X.env) :: starEach [ce] X.env := by rfl) (hs2 : starEach (ce :: []) X.env = (false, eval ce X.env) :: starEach [] X.env := by rfl) (hpl : (backTo pos (starEach [ce] X.env)).any (·.1) = false := by rfl) :
    DE (X.suite a ((a, oe) :: pn)) (.Call (.Name "isinstance" p) [e, ce] [] pos) (dIsX a dd cn tab te) := by
  obtain ⟨t, pt, h⟩ := he.ex
  have al := tab_all (P := fun n b => ∃ D, X.mg n = some (.ref D) ∧ XIs X.K D ∧ PySem.W.kitOne X.K (.ref D) cv = some b) hT cn
  cases hl : tab.lookup cn with
  | none =>
    refine ⟨_, pe_callB (r := fun xs H Q => False) (fun pins s σ H xs us Q I r h => h.elim) hg hm rfl (pa_cons pt (pa_cons hc pa_nil hs2) hs1) (by decide) (by decide) hs1 hpl, fun G M σ H σd μ Q R hK S q k => ?_⟩
    · refine h G M σ H σd μ _ _ hK S q fun v H1 d μ1 S1 r1 q1 => ?_
      obtain ⟨f, x, b, _, e1, _⟩ := q1
      rw [hl] at e1; cases e1
  | some b =>
    obtain ⟨D, hD, C, hk⟩ := al b hl
    rw [hD] at hcn
    cases hcn
    refine ⟨_, pe_callB (call_isX C hz hf hcv hk) hg hm rfl (pa_cons pt (pa_cons hc pa_nil hs2) hs1) (by decide) (by decide) hs1 hpl, fun G M σ H σd μ Q R hK S q k => ?_⟩
    refine h G M σ H σd μ _ _ hK S q fun v H1 d μ1 S1 r1 q1 => ?_
    obtain ⟨f, x, b', rfl, e1, q1⟩ := q1
    rw [hl] at e1; cases e1
    obtain ⟨e1, hmd, w, h1, h2⟩ := r1
    exact ⟨by rw [e1], ⟨_, h1⟩, k _ _ (.bl b) _ S1 rfl q1⟩
end DL

set_option maxRecDepth 100000
namespace DL
open PySem PySem.Spec PyProof.Rows L2
/-! ### try with a table of classes; the steps through readings that may raise -/
def dTryT (i : Nat) (tab : List (Str × Bool)) (u : DTSX) (t : DTH) : DTS := fun De σd μ =>
  u De (fun cn f x σ1 μ1 => tab.lookup cn = some true ∧ ∀ a dd, t a dd cn { nx := fun σ' μ' => De.nx (σ'.set i none) μ', rt := De.rt, bk := fun σ' μ' => De.bk (σ'.set i none) μ', ct := fun σ' μ' => De.ct (σ'.set i none) μ' } (σ1.set i (some (.exc a dd f x))) μ1) σd μ
theorem ds_tryT {X : Cx} {x n : Str} {c : Value} {i : Nat} {body suite : List Stmt} {b₀ : Stmt} {np pos pos' : Pos} {u : DTSX} {t : DTH} {tab : List (Str × Bool)} (hs : X.stack = X.env :: X.outer) (hf : X.env.frame = some X.env.locals) (hN : X.N.Nodup) (hi : X.N[i]? = some n) (hln : X.env.kindOf n = some .local) (hc : Names X x c)
    (hT : ∀ p ∈ tab, ∃ C, X.mg p.1 = some (.ref C) ∧ PySem.W.exmOne X.K (.ref C) c = some p.2)
    (hb : ∀ (pn : List (Addr × Obj)) (xe : Value → Shared → Prop), DSXs (X.tr pn xe) body u) (hsu : DSH X (b₀ :: suite) t) :
    DS X (.Try body [.ExceptHandler (some (.Name x np)) (some n) (b₀ :: suite) pos'] [] [] pos) (dTryT i tab u t) :=
  ds_try (mt := fun cn => tab.lookup cn) hs hf hN hi hln hc (fun cn C h hm => by
    obtain ⟨C', h1, h2⟩ := tab_all (P := fun n b => ∃ C, X.mg n = some (.ref C) ∧ PySem.W.exmOne X.K (.ref C) c = some b) hT cn true h
    rw [hm] at h1
    cases h1
    exact h2) hb hsu
section
variable {De : DEnds} {Ex : DEx} {σ : DSt} {μ : Mem} {u u' : DTSX} {t : DTS} {te : DTE} {tx : DTEX} {ta : DTA} {tax : DTAX} {Q : D → Mem → Prop} {QA : List D → Mem → Prop}
theorem e_pureX (h : t De σ μ) : dPure t De Ex σ μ := h
theorem e_seqX (h : u { nx := u' De Ex, rt := De.rt, bk := De.bk, ct := De.ct } Ex σ μ) : dSeqX u u' De Ex σ μ := h
theorem e_ifX {c : DTT} (h : c σ μ fun b μ1 => if b = true then u De Ex σ μ1 else u' De Ex σ μ1) : dIfX c u u' De Ex σ μ := h
theorem e_raiseX {cn f : Str} (h : ta σ μ fun ds μ1 => ∃ x, ds = [x] ∧ Ex cn f x σ μ1) : dRaiseX cn f ta De Ex σ μ := h
theorem e_asgE {g : DTG} (h : tx Ex σ μ fun d μ1 => g d σ μ1 De.nx) : dAsgE tx g De Ex σ μ := h
theorem e_retE (h : tx Ex σ μ De.rt) : dRetE tx De Ex σ μ := h
theorem e_dropE (h : tx Ex σ μ fun _ μ1 => De.nx σ μ1) : dDropE tx De Ex σ μ := h
theorem e_callX {F : DSpX} (h : tax Ex σ μ fun ds μ1 => F ds μ1 Q fun cn f x μ' => Ex cn f x σ μ') : dCallX F tax Ex σ μ Q := h
theorem e_dE (h : te σ μ Q) : dE te Ex σ μ Q := h
theorem e_dAE (h : ta σ μ QA) : dAE ta Ex σ μ QA := h
theorem e_consX (h : tx Ex σ μ fun d μ1 => tax Ex σ μ1 fun ds μ2 => QA (d :: ds) μ2) : dConsX tx tax Ex σ μ QA := h
theorem e_lstX (h : tax Ex σ μ fun ds μ1 => ds.length ≤ sizeLine ∧ Q (.lst ds) μ1) : dLstX tax Ex σ μ Q := h
theorem e_tupX (h : tax Ex σ μ fun ds μ1 => ds.length ≤ sizeLine ∧ Q (.tup ds) μ1) : dTupX tax Ex σ μ Q := h
theorem e_one1 {x : D} {R : D → Prop} (h : R x) : ∃ y, [x] = [y] ∧ R y := ⟨x, rfl, h⟩
theorem e_tryT {i : Nat} {tab : List (Str × Bool)} {th : DTH} (h : u De (fun cn f x σ1 μ1 => tab.lookup cn = some true ∧ ∀ a dd, th a dd cn { nx := fun σ' μ' => De.nx (σ'.set i none) μ', rt := De.rt, bk := fun σ' μ' => De.bk (σ'.set i none) μ', ct := fun σ' μ' => De.ct (σ'.set i none) μ' } (σ1.set i (some (.exc a dd f x))) μ1) σ μ) :
    dTryT i tab u th De σ μ := h
theorem e_isX {a dd : Addr} {cn : Str} {tab : List (Str × Bool)} (h : te σ μ fun d μ1 => ∃ f x b, d = .exc a dd f x ∧ tab.lookup cn = some b ∧ Q (.bl b) μ1) : dIsX a dd cn tab te σ μ Q := h
theorem e_isX1 {a dd : Addr} {cn f : Str} {x : D} {tab : List (Str × Bool)} {b : Bool} {R : Bool → Prop} (h1 : tab.lookup cn = some b) (h : R b) : ∃ f' x' b', D.exc a dd f x = .exc a dd f' x' ∧ tab.lookup cn = some b' ∧ R b' := ⟨f, x, b, rfl, h1, h⟩
theorem e_xf {a dd : Addr} {cn cn0 f : Str} (h : te σ μ fun d μ1 => ∃ x, d = .exc a dd f x ∧ cn = cn0 ∧ Q x μ1) : dXf a dd cn cn0 f te σ μ Q := h
theorem e_xf1 {a dd : Addr} {cn f : Str} {x : D} {R : D → Prop} (h : R x) : ∃ x', D.exc a dd f x = .exc a dd f x' ∧ cn = cn ∧ R x' := ⟨x, rfl, rfl, h⟩
end
end DL
namespace DL
open PySem PySem.Spec PyProof.Rows L2
/-! ### what a law's text says of its classes -/
def clsInit : Stmt → Stmt
  | .ClassDef (body := b) .. => b.headD (.Pass ⟨0, 0, 0, 0⟩)
  | s => s
/-- raise N(e) -/
theorem dsx_raiseT {X : Cx} {a : Expr} {ta : DTA} {cn f : Str} {p q r : Pos} {k : Nat} (hx : ∃ C fI, XTxt X.K X.mg cn f C fI) (hc : X.calm = true) (hr : Room k X.A) (ha : DA X [a] ta) (hg : Gl X cn := by rfl) (hdb : (cn == ("__debug__" : Str)) = false := by decide)
    (he : starEach (a :: []) X.env = (false, eval a X.env) :: starEach [] X.env := by rfl) (hpl : (backTo q (starEach [] X.env)).any (·.1) = false := by rfl) : DSX X (.Raise (some (.Call (.Name cn p) [a] [] q)) none r) (dRaiseX cn f ta) := by
  obtain ⟨C, fI, T⟩ := hx
  exact dsx_raise hc T.gC ha fun te p => pmk_x T hr p hg hdb he hpl
/-- the class N with the field f, as it is caught -/
structure XCat (K : PySem.W.Frag) (mg : Str → Option Value) (n f : Str) : Prop where
  ex : ∃ C, mg n = some (.ref C) ∧ XfC K C ∧ PySem.W.findIn K (.ref C) f = some none
theorem de_xfT {X : Cx} {a : Addr} {oe : Obj} {cls : Value} {dd : Addr} {pn : List (Addr × Obj)} {e : Expr} {te : DTE} {pos : Pos} {f cn cn0 : Str} (hx : XCat X.K X.mg cn0 f) (hz : Zc cls (some dd) oe) (hf : ∃ vs, oe.data = .fields vs) (hcn : X.mg cn = some cls)
    (he : DE (X.suite a ((a, oe) :: pn)) e te) (hb : attributeBase e f X.env (eval e X.env) = eval e X.env := by rfl) :
    DE (X.suite a ((a, oe) :: pn)) (.Attribute e f pos) (dXf a dd cn cn0 f te) := by
  obtain ⟨C, h1, h2, h3⟩ := hx.ex
  exact de_xf h2 h3 h1 hz hf hcn he hb
end DL

set_option maxRecDepth 100000
namespace DL
open PySem PySem.Spec PyProof.Rows L2
/-! ### starred items; two targets; a module's nested tuples -/
theorem st_sq {K : PySem.W.Frag} {bx M H} {d : D} {l : List D} {v : V} (r : Rp K bx M H d v) (e : stOf d = some l) : ∃ a xs, v = .ref a ∧ (SqT K H a xs ∨ SqL K H a xs) ∧ Rps K bx M H l xs := by
  cases d with
  | lst l' =>
    cases e
    obtain ⟨a, xs, e1, o, r⟩ := r
    exact ⟨a, xs, e1, .inr o.sq, r⟩
  | tup l' =>
    cases e
    obtain ⟨a, xs, e1, o, r⟩ := r
    exact ⟨a, xs, e1, .inl o.sq, r⟩
  | frz l' =>
    cases e
    obtain ⟨a, xs, e1, o, r⟩ := r
    exact ⟨a, xs, e1, .inr o.sq, r⟩
  | _ => cases e
theorem rps_zipS {K : PySem.W.Frag} {bx M H} : ∀ {l : List D} {xs : List V}, Rps K bx M H l xs → ∀ q ∈ xs.zip l, Rp K bx M H q.2 q.1
  | [], xs, h, q, hq => by rw [show xs = [] from h] at hq; cases hq
  | d :: l, xs, h, q, hq => by
    obtain ⟨v, r, rfl, h1, h2⟩ := h
    rcases List.mem_cons.mp hq with rfl | hq
    · exact h1
    · exact rps_zipS h2 q hq
theorem rps_unzip {K : PySem.W.Frag} {bx M H} : ∀ {l : List D} {xs : List V}, xs.length = l.length → (∀ q ∈ xs.zip l, Rp K bx M H q.2 q.1) → Rps K bx M H l xs
  | [], [], _, _ => rfl
  | d :: l, v :: xs, e, h => ⟨v, xs, rfl, h (v, d) (List.mem_cons_self ..), rps_unzip (by simpa using e) fun q hq => h q (List.mem_cons_of_mem _ hq)⟩
def dStar (te : DTE) (tr : DTA) : DTA := fun σd μ Q => te σd μ fun d μ1 => ∃ l, stOf d = some l ∧ tr σd μ1 fun ds μ2 => Q (l ++ ds) μ2
theorem da_star {X : Cx} {e : Expr} {es : List Expr} {p : Pos} {te : DTE} {tr : DTA} (he : DE X e te) (hr : DA X es tr) (hs : starEach (.Starred e p :: es) X.env = (true, eval e X.env) :: starEach es X.env := by rfl) : DA X (.Starred e p :: es) (dStar te tr) := by
  obtain ⟨t, pt, h⟩ := he.ex
  obtain ⟨t', pt', h'⟩ := hr.ex
  refine ⟨_, StX.pa_star pt pt' hs, fun G M σ H σd μ Q R hK S hq k => ?_⟩
  refine h G M σ H σd μ _ _ hK S hq fun v H1 d μ1 S1 r1 q1 => ?_
  obtain ⟨l, hl, q1⟩ := q1
  obtain ⟨a, xs, rfl, sq, rs⟩ := st_sq r1 hl
  refine ⟨a, xs, rfl, by rw [← hK]; exact sq, ?_⟩
  refine h' (G.pinL (xs.zip l)) M σ H1 σd μ1 _ _ hK (S1.pinL (rps_zipS rs)) q1 fun vs H2 ds μ2 S2 r2 q2 => ?_
  exact k _ _ (l ++ ds) μ2 S2.unpinL (Rps.app (rps_unzip rs.len fun q hq => S2.fr q (List.mem_append_left _ hq)) r2) q2
/-- f(*e) -/
def dCallS (F : DSp) (te : DTE) : DTE := fun σd μ Q => te σd μ fun d μ1 => ∃ l, stOf d = some l ∧ F l μ1 Q
theorem de_callS {X : Cx} {k : Nat} {ps : List Str} {F : DSp} {x : Str} {p pos p2 : Pos} {e : Expr} {te : DTE} (Hs : Has X.prog X.w X.K X.mg X.base k x ps F) (hg : X.A.guards = some []) (hr : Room k X.A) (gl : Gl X x) (he : DE X e te)
    (hdb : (x == ("__debug__" : Str)) = false := by decide) (hst : starEach [.Starred e p2] X.env = [(true, eval e X.env)] := by rfl) : DE X (.Call (.Name x p) [.Starred e p2] [] pos) (dCallS F te) := by
  obtain ⟨f, fd, hm, hk, _, hb, Fn⟩ := Hs
  obtain ⟨t, pt, h⟩ := he.ex
  refine ⟨fun σ H Q => t σ H fun y H1 => ∃ a xs, y = V.ref a ∧ (SqT X.K H1 a xs ∨ SqL X.K H1 a xs) ∧ spD X.K F xs H1 Q E0, ⟨fun pins s σ H Q I q => ?_⟩, fun G M σ H σd μ Q R hK S q kk => ?_⟩
  · refine wpAny_Call_Name_kw (ld_glob I gl hm ?_ hdb)
    refine PySem.W.callWith_S (h₀ := X.base) I.ok.mod.kin hk (thn (pt.run pins s σ H _ I q) fun v s1 ⟨y, H1, I1, ry, a, xs, ey, hxs, q⟩ => ?_) hst
    subst ey
    obtain rfl : v = Value.ref a := ry
    exact StX.star_any I1 hxs fun us s2 I2 rv => ⟨I2.kIn, go_fnG Fn hg hr (.all hb) I2 rv q⟩
  · refine h G M σ H σd μ _ _ hK S q fun v H1 d μ1 S1 r1 q1 => ?_
    obtain ⟨l, hl, q1⟩ := q1
    obtain ⟨a, xs, rfl, sq, rs⟩ := st_sq r1 hl
    refine ⟨a, xs, rfl, by rw [← hK]; exact sq, G.bx, M, l, μ1, Q, by rw [← hK]; exact S1.entry, by rw [← hK]; exact rs, q1, fun v H' d μ' A r q => ?_⟩
    rw [← hK] at A r
    exact kk v H' d μ' (S1.after A) r q
/-- t1 = t2 = e -/
def dAsg2 (te : DTE) (g1 g2 : DTG) : DTS := fun De σd μ => te σd μ fun d μ1 => g1 d σd μ1 fun σ1 μ2 => g2 d σ1 μ2 De.nx
theorem ds_asg2 {X : Cx} {e t1 t2 : Expr} {te : DTE} {g1 g2 : DTG} {pos : Pos} (he : DE X e te) (h1 : DG X t1 g1) (h2 : DG X t2 g2) (ha : (assignEach [t1, t2] X.env).map (·.2) = [assign t1 X.env, assign t2 X.env] := by rfl) (hw : swappedStores [t1, t2] e X.env = pure none := by rfl) :
    DS X (.Assign [t1, t2] e pos) (dAsg2 te g1 g2) := by
  obtain ⟨t, pt, h⟩ := he.ex
  obtain ⟨g, pg, hg1⟩ := h1.ex
  obtain ⟨g', pg', hg2⟩ := h2.ex
  refine ⟨_, ps_asg2 pt pg pg' ha hw, fun G M σ H σd μ De E hK S q L => ?_⟩
  refine h G M σ H σd μ _ _ hK S q fun v H1 d μ1 S1 r1 q1 => ?_
  refine hg1 (G.pinL [(v, d)]) M σ H1 σd μ1 d v _ _ hK (S1.pinL fun q hq => by rw [List.mem_singleton.mp hq]; exact r1) r1 q1 fun σ2 H2 σd2 μ2 S2 q2 => ?_
  exact hg2 G M σ2 H2 σd2 μ2 d v _ _ hK S2.unpinL (S2.fr (v, d) (List.mem_append_left _ (List.mem_cons_self ..))) q2 fun σ' H' σd' μ' S' q' => L.nx _ _ _ _ _ S' q'
/-! a module's tuple of integers, and of one such tuple -/
def intsAre : List Value → List Int → Bool
  | [], [] => true
  | .int z _ :: r, y :: s => (z == y) && intsAre r s
  | _, _ => false
def tupInts (o : Obj) (zs : List Int) : Bool := (match o.cls with | .type n => n == "tuple" | _ => false) && match o.data with
  | .seq its _ => decide (its.size ≤ 1000) && intsAre its.toList zs
  | _ => false
def tupRef (o : Obj) (b : Addr) : Bool := (match o.cls with | .type n => n == "tuple" | _ => false) && match o.data with
  | .seq its _ => decide (its.size ≤ 1000) && (match its.toList with | [.ref c] => c == b | _ => false)
  | _ => false
theorem intsAre_vals : ∀ {us : List Value} {zs : List Int}, intsAre us zs = true → Vals (zs.map V.int) us
  | [], [], _ => .nil
  | .int z t :: r, y :: s, h => by
    unfold intsAre at h
    rw [Bool.and_eq_true] at h
    obtain ⟨h1, h2⟩ := h
    cases (beq_iff_eq.mp h1)
    exact .cons ⟨t, rfl⟩ (intsAre_vals h2)
theorem sqT_ints {K : PySem.W.Frag} {H : Hp} {a : Addr} {o : Obj} {zs : List Int} (h : K.lookup a = some o) (e : tupInts o zs = true) : SqT K H a (zs.map V.int) := by
  obtain ⟨c, dd, dt, sl⟩ := o
  unfold tupInts at e
  rw [Bool.and_eq_true] at e
  obtain ⟨e1, e2⟩ := e
  simp only at e1 e2
  split at e1
  · rename_i n
    cases (beq_iff_eq.mp e1)
    split at e2
    · rename_i its n
      rw [Bool.and_eq_true, decide_eq_true_eq] at e2
      exact .inr ⟨_, its, n, h, rfl, rfl, by rw [sizeLine_eq]; omega, intsAre_vals e2.2⟩
    · cases e2
  · cases e1
theorem sqT_ref {K : PySem.W.Frag} {H : Hp} {a b : Addr} {o : Obj} (h : K.lookup a = some o) (e : tupRef o b = true) : SqT K H a [V.ref b] := by
  obtain ⟨c, dd, dt, sl⟩ := o
  unfold tupRef at e
  rw [Bool.and_eq_true] at e
  obtain ⟨e1, e2⟩ := e
  simp only at e1 e2
  split at e1
  · rename_i n
    cases (beq_iff_eq.mp e1)
    split at e2
    · rename_i its n
      rw [Bool.and_eq_true, decide_eq_true_eq] at e2
      obtain ⟨e2, e3⟩ := e2
      split at e3
      · rename_i c hc
        refine .inr ⟨_, its, n, h, rfl, rfl, by rw [sizeLine_eq]; omega, ?_⟩
        rw [hc, beq_iff_eq.mp e3]
        exact .cons rfl .nil
      · cases e3
    · cases e2
  · cases e1
theorem de_globT1 {X : Cx} {x : Str} {pos : Pos} {zs : List Int} (hg : Gl X x) (h : ∃ a b, X.mg x = some (.ref a) ∧ SqT X.K (fun _ => none) a [V.ref b] ∧ SqT X.K (fun _ => none) b (zs.map V.int)) (hd : (x == ("__debug__" : Str)) = false := by decide) : DE X (.Name x pos) (dC (.tup [.tup (zs.map D.int)])) := by
  obtain ⟨a, b, hm, ht, hb⟩ := h
  refine ⟨_, pe_glob (v := .ref a) hg hm rfl hd, fun G M σ H σd μ Q R hK S q k => ?_⟩
  exact k (.ref a) H (.tup [.tup (zs.map D.int)]) μ S ⟨a, _, rfl, .inr (by rw [hK]; exact ht), .ref b, [], rfl, ⟨b, _, rfl, .inr (by rw [hK]; exact hb), Rps.of_ints zs⟩, rfl⟩ q
section
variable {De : DEnds} {σ : DSt} {μ : Mem} {te : DTE} {tr : DTA} {Q : D → Mem → Prop} {QA : List D → Mem → Prop}
theorem e_star (h : te σ μ fun d μ1 => ∃ l, stOf d = some l ∧ tr σ μ1 fun ds μ2 => QA (l ++ ds) μ2) : dStar te tr σ μ QA := h
theorem e_star1 {d : D} {l : List D} {R : List D → Prop} (h1 : stOf d = some l) (h : R l) : ∃ l, stOf d = some l ∧ R l := ⟨l, h1, h⟩
theorem e_callS {F : DSp} (h : te σ μ fun d μ1 => ∃ l, stOf d = some l ∧ F l μ1 Q) : dCallS F te σ μ Q := h
theorem e_asg2 {g1 g2 : DTG} (h : te σ μ fun d μ1 => g1 d σ μ1 fun σ1 μ2 => g2 d σ1 μ2 De.nx) : dAsg2 te g1 g2 De σ μ := h
end
end DL
namespace DL
open PySem PySem.Spec PyProof.Rows L2
def tupRefOf (o : Obj) : Option Addr := match o.cls with
  | .type n => if n == "tuple" then (match o.data with
    | .seq its _ => if decide (its.size ≤ 1000) then (match its.toList with | [.ref c] => some c | _ => none) else none
    | _ => none) else none
  | _ => none
theorem tupRef_of {o : Obj} {b : Addr} (h : tupRefOf o = some b) : tupRef o b = true := by
  obtain ⟨c, dd, dt, sl⟩ := o
  unfold tupRefOf at h
  simp only at h
  split at h
  · split at h
    · rename_i n hn
      split at h
      · split at h
        · rename_i its m hs
          split at h
          · rename_i c hc
            cases h
            unfold tupRef
            simp only [hn, Bool.true_and, hs]
            rw [hc]
            exact beq_self_eq_true _
          · cases h
        · cases h
      · cases h
    · cases h
  · cases h
/-! a def that calls itself: the innermost promise is of nothing -/
theorem has_none {P : Program} {w : World} {K : PySem.W.Frag} {mg : Str → Option Value} {base : Heap} {k : Nat} {x : Str} {st : Stmt} {N ps : List Str} (D0 : Dfn K mg x st ps) (S : FnScope N ps (defScope st)) (hk : 0 < k) : Has P w K mg base k x ps (fun _ _ _ => False) := by
  obtain ⟨j, rfl⟩ : ∃ j, k = j + 1 := ⟨k - 1, by omega⟩
  exact okH (t := fun _ _ _ => False) D0 S (fun _ _ _ h => h.elim) (fun f cdv A out s H E hg hr => ⟨fun _ _ _ => False, ⟨fun _ _ _ _ _ _ h => h.elim⟩, fun G M σ H σd μ De E hK S q L => q.elim⟩) (fun _ _ _ h => h.elim)
end DL

set_option maxRecDepth 100000
namespace DL
open PySem PySem.Spec L2 PyProof.Rows
section
variable {X : Cx} {e : Expr} {t : DTE} {pos : Pos}
/-! ### zip of two tuples -/
def dZipT (ta : DTA) : DTI := fun σd μ Q => ta σd μ fun ds μ1 => ∃ l m, ds = [.tup l, .tup m] ∧ Q (zipD l m) μ1
theorem di_zipT {a b : Expr} {ta : DTA} {p tpos : Pos} {elts : List Expr} {kk : Nat} (ha : DA X [a, b] ta) (hp : ∀ ta', PA X [a, b] ta' → PI X (.Tuple elts kk tpos) (.Call (.Name "zip" p) [a, b] [] pos) (RZ.iZipA X.K ta')) : DI X (.Tuple elts kk tpos) (.Call (.Name "zip" p) [a, b] [] pos) (dZipT ta) := by
  obtain ⟨te, p, h⟩ := ha.ex
  refine ⟨_, hp _ p, fun G M σ H σd μ Q R hK S q k => ?_⟩
  refine h G M σ H σd μ _ _ hK S q fun vs H1 ds μ1 S1 r1 q1 => ?_
  obtain ⟨l, m, rfl, q1⟩ := q1
  obtain ⟨v, v', rfl, r, r'⟩ := rps2 r1
  obtain ⟨a1, xs, rfl, h1, h2⟩ := id r
  obtain ⟨b1, ys, rfl, g1, g2⟩ := id r'
  have again : ∀ (G' : Gm) M σ H σd μ, G'.K = G.K → G'.bx = G.bx → (∀ q ∈ [(V.ref a1, D.tup l), (V.ref b1, D.tup m)], q ∈ G'.Fr) → SR G' M σ H σd μ → (∃ xs, SqT X.K H a1 xs ∧ Rps G'.K G'.bx M H l xs) ∧ ∃ ys, SqT X.K H b1 ys ∧ Rps G'.K G'.bx M H m ys := fun G' M σ H σd μ eK eb hF S' => by
    obtain ⟨a', xs, ea, h1, h2⟩ := S'.fr _ (hF _ (List.mem_cons_self ..))
    obtain ⟨b', ys, eb, g1, g2⟩ := S'.fr _ (hF _ (List.mem_cons_of_mem _ (List.mem_singleton.mpr rfl)))
    cases ea
    cases eb
    exact ⟨⟨xs, by rw [← hK, ← eK]; exact h1.sq, h2⟩, ys, by rw [← hK, ← eK]; exact g1.sq, g2⟩
  refine ⟨a1, b1, xs, ys, rfl, .inr ⟨by rw [← hK]; exact h1.sq, by rw [← hK]; exact g1.sq, k [(.ref a1, .tup l), (.ref b1, .tup m)] _ _ (zipD l m) μ1 (S1.pinL fun q hq => ?_) ⟨?_, ?_, ?_⟩ q1⟩⟩
  · rcases List.mem_cons.mp hq with hq | hq
    · rw [hq]; exact r
    · rw [List.mem_singleton.mp hq]; exact r'
  · intro G' M σ H σd μ i eK eb hF S' hi
    obtain ⟨⟨xs, h1, h2⟩, ys, g1, g2⟩ := again G' M σ H σd μ eK eb hF S'
    unfold zipD at hi
    rw [List.length_zipWith] at hi
    obtain ⟨v, e3, _⟩ := h2.get (List.getElem?_eq_getElem (show i < l.length by omega))
    obtain ⟨w, e4, _⟩ := g2.get (List.getElem?_eq_getElem (show i < m.length by omega))
    exact ⟨xs, ys, v, w, h1, g1, e3, e4⟩
  · intro G' M σ H σd μ eK eb hF S'
    obtain ⟨⟨xs, h1, h2⟩, ys, g1, g2⟩ := again G' M σ H σd μ eK eb hF S'
    unfold zipD
    rw [List.length_zipWith]
    exact ⟨xs, ys, h1, g1, by rw [h2.len, g2.len]; omega⟩
  · intro G' M σ H σd μ i x H' d' eK eb hF S' hi y
    obtain ⟨T, x1, y1, rfl, hT, rfl, yx, yy⟩ := y
    obtain ⟨⟨xs, h1, h2⟩, ys, g1, g2⟩ := again G' M σ H σd μ eK eb hF S'
    unfold zipD at hi
    rw [List.getElem?_zipWith_eq_some] at hi
    obtain ⟨dx, dy, ex, ey, rfl⟩ := hi
    obtain ⟨v, e3, r3⟩ := h2.get ex
    obtain ⟨w, e4, r4⟩ := g2.get ey
    have := yx xs h1
    rw [e3] at this; cases this
    have := yy ys g1
    rw [e4] at this; cases this
    exact ⟨S'.new hT, S'.newT hT ⟨_, _, rfl, r3, _, _, rfl, r4, rfl⟩⟩
theorem e_zipT {σ : DSt} {μ : Mem} {ta : DTA} {Q : List D → Mem → Prop} (h : ta σ μ fun ds μ1 => ∃ l m, ds = [.tup l, .tup m] ∧ Q (zipD l m) μ1) : dZipT ta σ μ Q := h
theorem e_zipT1 {l m : List D} {R : List D → List D → Prop} (h : R l m) : ∃ l' m', [D.tup l, D.tup m] = [.tup l', .tup m'] ∧ R l' m' := ⟨l, m, rfl, h⟩
end
/-- a while by what holds at its head and what holds behind it -/
theorem while_by {c : DTT} {tb : DTS} {De : DEnds} {σ : DSt} {μ : Mem} (Iv : Nat → DSt → Mem → Prop) (Po : DSt → Mem → Prop) {m : Nat} (h0 : Iv m σ μ) (hp : ∀ σ μ, Po σ μ → De.nx σ μ)
    (hs : ∀ B : DSt → Mem → Prop, (∀ σ μ, Po σ μ → B σ μ) → ∀ m σ μ, Iv m σ μ → c σ μ fun b μ1 => if b = true then ∃ N : DSt → Mem → Prop, (∀ σ' μ', N σ' μ' → ∃ m', m' < m ∧ Iv m' σ' μ') ∧ tb { nx := N, rt := De.rt, bk := B, ct := N } σ μ1 else B σ μ1) : dWhile c tb De σ μ :=
  ⟨Iv, ⟨m, h0⟩, hs De.nx hp⟩
end DL

set_option maxRecDepth 100000
namespace DL
open PySem PySem.Spec L2 PyProof.Rows
/-! ### x, y, z = [], a, b: the first a list of one's own -/
def dParOwn3 (i j l : Nat) (ta : DTA) : DTS := fun De σd μ => ta σd μ fun ds μ1 => ∃ a b, ds = [a, b] ∧ De.nx (((σd.set i (some (.own []))).set j (some a)).set l (some b)) μ1
theorem ds_parOwn3 {X : Cx} {i j l : Nat} {tg b c : Expr} {ta : DTA} {p1 p2 pos : Pos} {k2} (ha : DA X [b, c] ta)
    (hp : ∀ ta', PA X [.List [] p1, b, c] ta' → PS X (.Assign [tg] (.Tuple [.List [] p1, b, c] k2 p2) pos) (tPar3 i j l ta')) :
    DS X (.Assign [tg] (.Tuple [.List [] p1, b, c] k2 p2) pos) (dParOwn3 i j l ta) := by
  obtain ⟨te, pa, h⟩ := ha.ex
  refine ⟨_, hp _ (pa_cons (pe_lst pa_nil) pa), fun G M σ H σd μ De E hK S q L => ?_⟩
  refine ⟨Nat.zero_le _, fun p hp => ?_⟩
  refine h (G.hold p) _ σ _ σd μ _ _ hK (S.hold hp) q fun vs H2 ds μ1 S2 r2 q2 => ?_
  obtain ⟨a, b, rfl, q2⟩ := q2
  obtain ⟨v, v', rfl, ra, rb⟩ := rps2 r2
  exact ⟨_, _, _, rfl, L.nx _ _ _ _ _ (((S2.take (.inr rfl) (S.free hp) S.m0t i).set j ra).set l rb) q2⟩
theorem e_parOwn3 {i j l : Nat} {ta : DTA} {De : DEnds} {σ : DSt} {μ : Mem} (h : ta σ μ fun ds μ1 => ∃ a b, ds = [a, b] ∧ De.nx (((σ.set i (some (.own []))).set j (some a)).set l (some b)) μ1) : dParOwn3 i j l ta De σ μ := h
end DL

set_option maxRecDepth 100000
/-! min of a list of tuples (int, int, int, (int, int)) -/
namespace DL
open PySem PySem.Spec PyProof.Rows L2 PySem.W
/-- min of a list of data that are alike -/
def rMinD (K : PySem.W.Frag) : List V → Hp → VK → Prop := fun vs H Q => ∃ (a : Addr) (xs : List V) (d : PyData) (ds : List PyData), vs = [V.ref a] ∧ SqL K H a xs ∧ DpAll K H xs (d :: ds) ∧ AlikeAll (d :: ds) ∧ PyData.depthAll (d :: ds) ≤ 60 ∧
  ∀ (i : Nat) (v : V), xs[i]? = some v → (d :: ds)[i]? = some (minD d ds) → Q v H
theorem dp_len {K H} : ∀ {xs : List V} {ds : List PyData}, DpAll K H xs ds → xs.length = ds.length
  | _, _, .nil => rfl
  | _, _, .cons _ h => by rw [List.length_cons, List.length_cons, dp_len h]
theorem getD_at {α : Type} {l : List α} {i : Nat} {d : α} (h : i < l.length) : l.getD i d = l[i] := by
  rw [List.getD_eq_getElem?_getD, List.getElem?_eq_getElem h]; rfl
theorem cr_minD {X : Cx} (hc : X.calm = true) (hu : X.A.units + 64 < cLine) : CallR X (.builtin "min") (rMinD X.K) := by
  intro pins s σ H vs us Q I r h
  obtain ⟨a, xs, d, ds, rfl, hs, hd, ha, hp, q⟩ := h
  obtain ⟨its, rv, hl, _⟩ := I.list hs
  obtain ⟨as, hr⟩ := Dp.readsAll I _ _ _ hd rv
  rw [Vals.ref1 r]
  refine min_list_data (I.ok.hd hc) hl.isList (by simpa using hr) ha (by omega) fun i v h' tk bs hi hb hk => ?_
  have hi' : its[i]? = some v := by simpa using hi
  obtain ⟨bs2, r2, i2, m2, _⟩ := readsAll_at hr i v hi'
  have hmem : minD d ds ∈ d :: ds := by
    have e2 := argBest_fold dataLt PyData.none d ds ds.length (Nat.le_refl _)
    rw [List.take_length] at e2
    show ds.foldl _ d ∈ _
    rw [← e2.2]
    have hlt : PySem.argBest (fun i j => dataLt ((d :: ds).getD i .none) ((d :: ds).getD j .none)) ds.length < (d :: ds).length := by rw [List.length_cons]; omega
    rw [getD_at hlt]
    exact List.getElem_mem hlt
  have e : (d :: ds).getD i .none = minD d ds := alike_unique _ _ v bs2 bs (ha.1 _ m2 _ hmem) (reads_keeps hk r2) hb
  have hx : i < xs.length := by rw [dp_len hd]; exact i2
  obtain ⟨u, hu1, hu2⟩ := Vals.get rv (List.getElem?_eq_getElem hx)
  rw [hi'] at hu1
  cases hu1
  exact ⟨xs[i], H, I.kept hk, hu2, q i _ (List.getElem?_eq_getElem hx) (by
    rw [List.getElem?_eq_getElem i2]
    rw [getD_at i2] at e
    exact congrArg some e)⟩
structure M5 where
  a : Int
  b : Int
  c : Int
  d : Int
  q : Int
  deriving DecidableEq
def M5.D (m : M5) : D := .tup [.int m.a, .int m.b, .int m.c, .tup [.int m.d, .int m.q]]
def M5.py (m : M5) : PyData := .tuple [.int m.a, .int m.b, .int m.c, .tuple [.int m.d, .int m.q]]
def M5.lt (m n : M5) : Bool :=
  if m.a = n.a then (if m.b = n.b then (if m.c = n.c then (if m.d = n.d then decide (m.q < n.q) else decide (m.d < n.d)) else decide (m.c < n.c)) else decide (m.b < n.b)) else decide (m.a < n.a)
def M5.best (m : M5) (ms : List M5) : M5 := ms.foldl (fun a y => if y.lt a = true then y else a) m
theorem m5_alike (m n : M5) : alike m.py n.py = true := by
  unfold M5.py
  simp [alike, alikeAll]
theorem m5_inj {m n : M5} (h : m.py = n.py) : m = n := by
  cases m
  cases n
  unfold M5.py at h
  simp at h
  obtain ⟨rfl, rfl, rfl, rfl, rfl⟩ := h
  rfl
theorem lt_int_cons (x y : Int) (l m : List PyData) : lexLt itemOrd (keyToksAll (.int x :: l)) (keyToksAll (.int y :: m)) = if x = y then lexLt itemOrd (keyToksAll l) (keyToksAll m) else decide (x < y) := by
  split
  · rename_i h
    subst h
    exact dataLt_all_yes rfl (by simp [PyData.eqv])
  · rename_i h
    rw [dataLt_all_no rfl (by simp [PyData.eqv, h]), dataLt_int]
theorem m5_lt (m n : M5) : dataLt m.py n.py = m.lt n := by
  unfold M5.py M5.lt
  rw [dataLt_tuple, lt_int_cons]
  split
  · rw [lt_int_cons]
    split
    · rw [lt_int_cons]
      split
      · by_cases h : m.d = n.d ∧ m.q = n.q
        · rw [dataLt_all_yes (by simp [alike, alikeAll]) (by simp [PyData.eqv, PyData.eqvAll, h.1, h.2]), if_pos h.1, h.2]
          rw [decide_eq_false (Int.lt_irrefl _)]
          rfl
        · rw [dataLt_all_no (by simp [alike, alikeAll]) (by
            simp [PyData.eqv, PyData.eqvAll]
            exact fun z w => h ⟨z, w⟩)]
          rw [dataLt_tuple, lt_int_cons]
          split
          · rw [lt_int_cons]
            split
            · rename_i h1 h2
              exact absurd ⟨h1, h2⟩ h
            · rfl
          · rfl
      · rfl
    · rfl
  · rfl
theorem minD_m5 (m : M5) : ∀ ms : List M5, minD m.py (ms.map M5.py) = (M5.best m ms).py := by
  intro ms
  unfold minD M5.best
  induction ms generalizing m with
  | nil => rfl
  | cons k r ih =>
    rw [List.map_cons, List.foldl_cons, List.foldl_cons, ← ih]
    rw [m5_lt]
    congr 1
    split <;> rfl
theorem m5_pys : ∀ ms : List M5, pys (ms.map M5.D) = ms.map M5.py ∧ flats (ms.map M5.D) = true ∧ PyData.depthAll (ms.map M5.py) ≤ 2
  | [] => ⟨rfl, rfl, by simp [PyData.depthAll]⟩
  | m :: ms => by
    obtain ⟨h1, h2, h3⟩ := m5_pys ms
    refine ⟨?_, ?_, ?_⟩
    · simp only [List.map_cons, pys, h1]; rfl
    · simp only [List.map_cons, flats, h2, Bool.and_true]; rfl
    · simp only [List.map_cons, PyData.depthAll]
      refine Nat.max_le.mpr ⟨?_, h3⟩
      unfold M5.py
      simp [PyData.depth, PyData.depthAll]
def dMin5 : DRC := fun ds μ Q => ∃ (d : D) (m : M5) (ms : List M5), ds = [d] ∧ lstOf μ d = some ((m :: ms).map M5.D) ∧ Q (M5.best m ms).D μ
theorem cd_min5 {X : Cx} (hc : X.calm = true) (hu : X.A.units + 64 < cLine) : CD X (.builtin "min") dMin5 := by
  refine ⟨_, cr_minD hc hu, fun G M σ H σd μ xs ds Q R hK S r q k => ?_⟩
  obtain ⟨d, m, ms, rfl, e, q⟩ := q
  obtain ⟨v, rfl, r1⟩ := rps1 r
  obtain ⟨a, xs, rfl, hs, rs⟩ := sq_lst S r1 e
  obtain ⟨p1, p2, p3⟩ := m5_pys (m :: ms)
  have hd := Rps.dp _ _ rs p2
  rw [p1] at hd
  refine ⟨a, xs, m.py, ms.map M5.py, rfl, by rw [← hK]; exact hs, by rw [← hK]; exact hd, ⟨fun x hx y hy => ?_, fun x hx => ?_⟩, Nat.le_trans p3 (by decide), fun i v hv hm => ?_⟩
  · obtain ⟨x, _, rfl⟩ := List.mem_map.mp (show x ∈ (m :: ms).map M5.py from hx)
    obtain ⟨y, _, rfl⟩ := List.mem_map.mp (show y ∈ (m :: ms).map M5.py from hy)
    exact m5_alike x y
  · obtain ⟨x, _, rfl⟩ := List.mem_map.mp (show x ∈ (m :: ms).map M5.py from hx)
    exact fun z => nomatch z
  · obtain ⟨d, hd1, hd2⟩ := Rps.get' rs hv
    rw [minD_m5] at hm
    rw [List.getElem?_map] at hd1
    have hm : ((m :: ms).map M5.py)[i]? = some (M5.best m ms).py := hm
    rw [List.getElem?_map] at hm
    cases hz : (m :: ms)[i]? with
    | none => rw [hz] at hm; cases hm
    | some z =>
      rw [hz] at hm hd1
      have e1 : z = M5.best m ms := m5_inj (Option.some.inj hm)
      subst e1
      cases hd1
      exact k _ _ _ _ S hd2 q
theorem e_min5 {μ : Mem} {Q : D → Mem → Prop} {d : D} {m : M5} {ms : List M5} (e : lstOf μ d = some ((m :: ms).map M5.D)) (h : Q (M5.best m ms).D μ) : dMin5 [d] μ Q := ⟨d, m, ms, rfl, e, h⟩
end DL

set_option maxRecDepth 100000
namespace DL
open PySem PySem.Spec L2 PyProof.Rows
/-! ### x, y = [], e: the first a list of one's own -/
def dParOwnF (i j : Nat) (ta : DTA) : DTS := fun De σd μ => ta σd μ fun ds μ1 => ∃ a, ds = [a] ∧ De.nx ((σd.set i (some (.own []))).set j (some a)) μ1
theorem ds_parOwnF {X : Cx} {i j : Nat} {tg b : Expr} {ta : DTA} {p1 p2 pos : Pos} {k2} (ha : DA X [b] ta)
    (hp : ∀ ta', PA X [.List [] p1, b] ta' → PS X (.Assign [tg] (.Tuple [.List [] p1, b] k2 p2) pos) (tPar i j ta')) :
    DS X (.Assign [tg] (.Tuple [.List [] p1, b] k2 p2) pos) (dParOwnF i j ta) := by
  obtain ⟨te, pa, h⟩ := ha.ex
  refine ⟨_, hp _ (pa_cons (pe_lst pa_nil) pa), fun G M σ H σd μ De E hK S q L => ?_⟩
  refine ⟨Nat.zero_le _, fun p hp => ?_⟩
  refine h (G.hold p) _ σ _ σd μ _ _ hK (S.hold hp) q fun vs H2 ds μ1 S2 r2 q2 => ?_
  obtain ⟨a, rfl, q2⟩ := q2
  obtain ⟨v, rfl, ra⟩ := rps1 r2
  exact ⟨_, _, rfl, L.nx _ _ _ _ _ ((S2.take (.inr rfl) (S.free hp) S.m0t i).set j ra) q2⟩
theorem e_parOwnF {i j : Nat} {ta : DTA} {De : DEnds} {σ : DSt} {μ : Mem} (h : ta σ μ fun ds μ1 => ∃ a, ds = [a] ∧ De.nx ((σ.set i (some (.own []))).set j (some a)) μ1) : dParOwnF i j ta De σ μ := h
end DL

set_option maxRecDepth 100000
namespace DL
open PySem PySem.Spec L2
/-! ### texts -/
section
variable {X : Cx} {a b e o : Expr} {ta tb t : DTE} {pos p2 apos cpos : Pos}
/-- text[i] -/
def dIxS : DR2 := fun x y μ Q => ∃ z i c, x = .str z ∧ y = .int i ∧ 0 ≤ i ∧ i < 2 ^ 63 ∧ i < z.length ∧ z.cps[i.toNat]? = some c ∧ Q (.str ⟨#[c]⟩) μ
theorem de_ixS (ha : DE X a ta) (hb : DE X b tb) (hs : PlainIxT b := by exact fun _ _ => rfl) : DE X (.Subscript a b pos) (dOp dIxS ta tb) := by
  obtain ⟨te, pa, ha⟩ := ha.ex
  obtain ⟨te', pb, hb⟩ := hb.ex
  refine ⟨_, pe_item_str pa pb hs, bin2 ha hb fun G M σ H σd μ x y dx dy Q R hK S rx ry q k => ?_⟩
  obtain ⟨z, i, c, rfl, rfl, h0, h1, h2, hc, q⟩ := q
  cases (show x = .str z from rx)
  cases (show y = .int i from ry)
  exact ⟨z, i, c, rfl, rfl, h0, h1, h2, hc, k _ _ _ _ S (rpS _) q⟩
/-- text[lo:hi] -/
def dSlS (te : DTE) (tl th : DTO) : DTE := fun σd μ Q => te σd μ fun x μ1 => tl σd μ1 fun l μ2 => th σd μ2 fun u μ3 => ∃ z, x = .str z ∧ z.length ≤ sizeLine ∧ Q (.str (cutS z l u)) μ3
theorem de_sliceS {lo hi : Option Expr} {tl th : DTO} (he : DE X e t) (hl : DO X lo tl) (hu : DO X hi th) : DE X (.Subscript e (.Slice lo hi none p2) pos) (dSlS t tl th) := by
  obtain ⟨te, p, he⟩ := he.ex
  obtain ⟨te1, p1, hl⟩ := hl.ex
  obtain ⟨te2, p2, hu⟩ := hu.ex
  refine ⟨_, pe_slice sl_str p p1 p2, fun G M σ H σd μ Q R hK S hq k => ?_⟩
  refine he G M σ H σd μ _ _ hK S hq fun v H1 d μ1 S1 r1 q1 => ?_
  refine hl (G.pin v d) M σ H1 σd μ1 _ _ hK (S1.pin r1) q1 fun b H2 μ2 S2 q2 => ?_
  refine hu (G.pin v d) M σ H2 σd μ2 _ _ hK S2 q2 fun u H3 μ3 S3 q3 => ?_
  obtain ⟨S3', r⟩ := S3.unpin
  obtain ⟨z, rfl, hz, q⟩ := q3
  cases (show v = .str z from r)
  exact ⟨z, rfl, hz, k _ _ _ _ S3' (rpS _) q⟩
/-- text.find(text) -/
def rFindT : V → List V → Hp → VK → Prop := fun x xs H Q => ∃ a b, x = .str a ∧ xs = [.str b] ∧ Q (.int (Txt.find a b)) H
def dFind (ta tb : DTE) : DTE := fun σd μ Q => ta σd μ fun x μ1 => ∃ a, x = .str a ∧ tb σd μ1 fun y μ2 => ∃ b, y = .str b ∧ Q (.int (Txt.find a b)) μ2
theorem de_find (ho : DE X o ta) (hb : DE X e tb) (hp : ∀ te te', PE X o te → PE X e te' → PE X (.Call (.Attribute o "find" apos) [e] [] cpos) (tBM X.K "str" rFindT te (tCons te' tNil)) := by exact fun _ _ a b => pe_bm PySem.F.plainAttrs_str PySem.F.slot_str_find PySem.F.type_str_find mt_find a (pa_cons b pa_nil)) :
    DE X (.Call (.Attribute o "find" apos) [e] [] cpos) (dFind ta tb) := by
  obtain ⟨te, p, h⟩ := ho.ex
  obtain ⟨te', p', h'⟩ := hb.ex
  refine ⟨_, hp _ _ p p', fun G M σ H σd μ Q R hK S q k => ?_⟩
  refine h G M σ H σd μ _ _ hK S q fun v1 H1 d1 μ1 S1 r1 q1 => ?_
  obtain ⟨a, rfl, q1⟩ := q1
  cases (show v1 = .str a from r1)
  refine ⟨rfl, ?_⟩
  refine h' G M σ H1 σd μ1 _ _ hK S1 q1 fun v2 H2 d2 μ2 S2 r2 q2 => ?_
  obtain ⟨b, rfl, q⟩ := q2
  cases (show v2 = .str b from r2)
  exact ⟨a, b, rfl, rfl, k _ _ (.int _) _ S2 rfl q⟩
/-- text.index(text) -/
def rIndexT : V → List V → Hp → VK → Prop := fun x xs H Q => ∃ a b i rest, x = .str a ∧ xs = [.str b] ∧ Builtin.Str.occurrences a b 0 a.length 1 = i :: rest ∧ Q (.int (i : Nat)) H
def dIndexT (ta tb : DTE) : DTE := fun σd μ Q => ta σd μ fun x μ1 => ∃ a, x = .str a ∧ tb σd μ1 fun y μ2 => ∃ b i rest, y = .str b ∧ Builtin.Str.occurrences a b 0 a.length 1 = i :: rest ∧ Q (.int (i : Nat)) μ2
theorem de_indexT (ho : DE X o ta) (hb : DE X e tb) (hp : ∀ te te', PE X o te → PE X e te' → PE X (.Call (.Attribute o "index" apos) [e] [] cpos) (tBM X.K "str" rIndexT te (tCons te' tNil)) := by exact fun _ _ a b => pe_bm PySem.F.plainAttrs_str PySem.F.slot_str_index PySem.F.type_str_index mt_sindex a (pa_cons b pa_nil)) :
    DE X (.Call (.Attribute o "index" apos) [e] [] cpos) (dIndexT ta tb) := by
  obtain ⟨te, p, h⟩ := ho.ex
  obtain ⟨te', p', h'⟩ := hb.ex
  refine ⟨_, hp _ _ p p', fun G M σ H σd μ Q R hK S q k => ?_⟩
  refine h G M σ H σd μ _ _ hK S q fun v1 H1 d1 μ1 S1 r1 q1 => ?_
  obtain ⟨a, rfl, q1⟩ := q1
  cases (show v1 = .str a from r1)
  refine ⟨rfl, ?_⟩
  refine h' G M σ H1 σd μ1 _ _ hK S1 q1 fun v2 H2 d2 μ2 S2 r2 q2 => ?_
  obtain ⟨b, i, rest, rfl, ho, q⟩ := q2
  cases (show v2 = .str b from r2)
  exact ⟨a, b, i, rest, rfl, rfl, ho, k _ _ (.int _) _ S2 rfl q⟩
/-- sep.join(list of texts) -/
def dJoin (ta tb : DTE) : DTE := fun σd μ Q => ta σd μ fun x μ1 => ∃ a, x = .str a ∧ tb σd μ1 fun y μ2 => ∃ ys : List Str, seqOf μ2 y = some (ys.map D.str) ∧ (ys.map (·.length)).sum + ys.length * a.length ≤ 16777216 ∧ Q (.str (Txt.join a ys)) μ2
theorem de_join (ho : DE X o ta) (hb : DE X e tb) (hp : ∀ te te', PE X o te → PE X e te' → PE X (.Call (.Attribute o "join" apos) [e] [] cpos) (tM1 (fun x xs H Q => ∃ a p, ∃ ys : List Str, x = .str a ∧ xs = [.ref p] ∧ (SqL X.K H p (ys.map V.str) ∨ SqT X.K H p (ys.map V.str)) ∧ (ys.map (·.length)).sum + ys.length * a.length ≤ 16777216 ∧ Q (.str (Txt.join a ys)) H) te te') := by exact fun _ _ a b => pe_join a b) :
    DE X (.Call (.Attribute o "join" apos) [e] [] cpos) (dJoin ta tb) := by
  obtain ⟨te, p, h⟩ := ho.ex
  obtain ⟨te', p', h'⟩ := hb.ex
  refine ⟨_, hp _ _ p p', fun G M σ H σd μ Q R hK S q k => ?_⟩
  refine h G M σ H σd μ _ _ hK S q fun v1 H1 d1 μ1 S1 r1 q1 => ?_
  obtain ⟨a, rfl, q1⟩ := q1
  cases (show v1 = .str a from r1)
  refine ⟨⟨a, rfl⟩, ?_⟩
  refine h' G M σ H1 σd μ1 _ _ hK S1 q1 fun v2 H2 d2 μ2 S2 r2 q2 => ?_
  obtain ⟨ys, e1, hz, q⟩ := q2
  obtain ⟨b, xs, rfl, hs, rs⟩ := sq_seq S2 r2 e1
  rw [strs_rps rs, hK] at hs
  exact ⟨a, b, ys, rfl, rfl, hs, hz, k _ _ _ _ S2 (rpS _) q⟩
/-- one sign in a text -/
def dInC : DR2 := fun x y μ Q => ∃ (c : Nat) (z : Str), x = .str ⟨#[c]⟩ ∧ y = .str z ∧ Q (.bl (decide (c ∈ z.cps.toList))) μ
def dNotInC : DR2 := fun x y μ Q => ∃ (c : Nat) (z : Str), x = .str ⟨#[c]⟩ ∧ y = .str z ∧ Q (.bl (!decide (c ∈ z.cps.toList))) μ
theorem od_inC : OD X (compareOp .In) dInC := by
  refine ⟨_, op_in_sign, fun G M σ H σd μ x y dx dy Q R hK S rx ry q k => ?_⟩
  obtain ⟨c, z, rfl, rfl, q⟩ := q
  exact ⟨c, z, rx, ry, k _ _ (.bl _) _ S rfl q⟩
theorem od_notInC : OD X (compareOp .NotIn) dNotInC := by
  refine ⟨_, op_notIn_sign, fun G M σ H σd μ x y dx dy Q R hK S rx ry q k => ?_⟩
  obtain ⟨c, z, rfl, rfl, q⟩ := q
  exact ⟨c, z, rx, ry, k _ _ (.bl _) _ S rfl q⟩
/-- text * int -/
def repS (z : Str) (n : Nat) : Str := ⟨(List.replicate n z.cps.toList).flatten.toArray⟩
theorem fold_cps (c : Array Nat) : ∀ (n : Nat) (acc : Array Nat), (List.replicate n c).foldl (· ++ ·) acc = acc ++ (List.replicate n c.toList).flatten.toArray
  | 0, acc => by simp
  | n + 1, acc => by
    rw [List.replicate_succ, List.foldl_cons, fold_cps c n, List.replicate_succ, List.flatten_cons, Array.append_assoc]
    congr 1
    apply Array.ext'
    simp
theorem op_repS : OpR X (binaryOp .Mult) (fun x y H Q => ∃ (z : Str) (n : Nat), x = .str z ∧ y = .int n ∧ n ≤ 1000 ∧ z.length ≤ 1000 ∧ Q (.str (repS z n)) H) := by
  intro pins s σ H x y v u Q I rx ry h
  obtain ⟨z, n, rfl, rfl, hn, hz, q⟩ := h
  obtain ⟨t, rfl⟩ := rx
  obtain ⟨t', rfl⟩ := ry
  have hr : (decide ((n : Int) < -(2 ^ 63 : Int)) || decide ((n : Int) ≥ 2 ^ 63)) = false := by
    rw [decide_eq_false (by omega), decide_eq_false (by omega)]; rfl
  have hzn : z.length * n ≤ 1000 * 1000 := Nat.mul_le_mul hz hn
  have sl := sizeLine_eq
  have hlen : (repS z n).length ≤ sizeLine := by
    have : (repS z n).length = n * z.length := by
      show (List.replicate n z.cps.toList).flatten.toArray.size = _
      rw [List.size_toArray, List.length_flatten, List.map_replicate, List.sum_replicate_nat, Array.length_toList]
      rfl
    rw [this, Nat.mul_comm]
    omega
  refine PySem.P.mul_str hr (fun h1 h2 hgt => ?_) (fun h1 h2 => ?_) ?_
  · have h3 : (1000 : Int) ≤ (2 ^ 63 - 1) / (n : Int) := (Int.le_ediv_iff_mul_le (by omega)).mpr (by omega)
    omega
  · unfold Builtin.Str.tooLong
    rw [Int.toNat_natCast]
    exact decide_eq_false (by omega)
  · split
    · have e : n = 0 := by omega
      subst e
      exact ⟨by rw [sl]; decide, ⟨.str (repS z 0), H, I.tok _, ⟨_, rfl⟩, q⟩⟩
    · split
      · rename_i h1 h2
        have e : repS z n = z := by
          rcases Bool.or_eq_true _ _ |>.mp h2 with w | w
          · have : n = 1 := by have := eq_of_beq w; omega
            subst this
            unfold repS
            simp
          · have w : z.length = 0 := eq_of_beq w
            have w2 : z.cps = #[] := Array.eq_empty_of_size_eq_zero w
            unfold repS
            obtain ⟨c⟩ := z
            simp only at w2
            subst w2
            simp
        rw [e] at q
        exact ⟨.str z, H, I, ⟨_, rfl⟩, q⟩
      · have e : (⟨(List.replicate (n : Int).toNat z.cps).foldl (· ++ ·) #[]⟩ : Str) = repS z n := by
          rw [Int.toNat_natCast, fold_cps]
          unfold repS
          simp
        rw [e]
        exact ⟨hlen, ⟨.str (repS z n), H, I.tok _, ⟨_, rfl⟩, q⟩⟩
def dRepS : DR2 := fun x y μ Q => ∃ (z : Str) (n : Nat), x = .str z ∧ y = .int n ∧ n ≤ 1000 ∧ z.length ≤ 1000 ∧ Q (.str (repS z n)) μ
theorem od_repS : OD X (binaryOp .Mult) dRepS := by
  refine ⟨_, op_repS, fun G M σ H σd μ x y dx dy Q R hK S rx ry q k => ?_⟩
  obtain ⟨z, n, rfl, rfl, hn, hz, q⟩ := q
  exact ⟨z, n, rx, ry, hn, hz, k _ _ _ _ S (rpS _) q⟩
/-- the signs of a text, one by one -/
def dItS (t : DTE) : DTI := fun σd μ Q => t σd μ fun d μ1 => ∃ z : Str, d = .str z ∧ Q (z.cps.toList.map fun c => D.str ⟨#[c]⟩) μ1
theorem di_str {tg : Expr} (he : DE X e t) : DI X tg e (dItS t) := by
  obtain ⟨te, p, h⟩ := he.ex
  refine ⟨_, pi_str p, fun G M σ H σd μ Q R hK S q k => ?_⟩
  refine h G M σ H σd μ _ _ hK S q fun v H1 d μ1 S1 r1 q1 => ?_
  obtain ⟨z, rfl, q1⟩ := q1
  refine ⟨z, r1, k [] _ _ _ μ1 (S1.pinL fun q hq => nomatch hq) ⟨?_, ?_, ?_⟩ q1⟩
  · intro G' M σ H σd μ i eK eb hF S' hi
    rw [List.length_map, Array.length_toList] at hi
    exact hi
  · intro G' M σ H σd μ eK eb hF S'
    show z.cps.size ≤ _
    rw [List.length_map, Array.length_toList]
    exact Nat.le_refl _
  · intro G' M σ H σd μ i x H' d' eK eb hF S' hi y
    obtain ⟨rfl, c, hc, rfl⟩ := y
    rw [List.getElem?_map, Array.getElem?_toList, hc] at hi
    cases hi
    exact ⟨S', rpS _⟩
/-- x += an int -/
def dAug (i : Nat) (te : DTE) : DTS := fun De σd μ => ∃ k : Int, σd[i]? = some (some (.int k)) ∧ te σd μ fun y μ1 => ∃ j : Int, y = .int j ∧ De.nx (σd.set i (some (.int (k + j)))) μ1
theorem ds_aug {i : Nat} {x : Str} {pos' : Pos} (hN : X.N.Nodup) (hi : X.N[i]? = some x) (hx : Loc X.env.scope x) (he : DE X e t) (hf : X.fn x = true ∨ X.env.scope.names.lookup x = some .local := by first | exact .inl rfl | exact .inr rfl | assumption) :
    DS X (.AugAssign (.Name x pos') .Add e pos) (dAug i t) := by
  obtain ⟨te, p, h⟩ := he.ex
  refine ⟨_, ps_aug hN hi hx p ip_add hf, fun G M σ H σd μ De E hK S q L => ?_⟩
  obtain ⟨k, e1, q⟩ := q
  obtain ⟨v, e2, rv⟩ := S.slot i _ e1
  have rv : v = .int k := rv
  subst rv
  refine ⟨.int k, e2, ?_⟩
  refine h G M σ H σd μ _ _ hK S q fun w H1 d μ1 S1 r1 q1 => ?_
  obtain ⟨j, rfl, q1⟩ := q1
  have r1 : w = .int j := r1
  exact ⟨k, j, rfl, r1, L.nx _ _ _ _ _ (S1.set i (d := .int (k + j)) rfl) q1⟩
theorem e_aug {i : Nat} {te : DTE} {De : DEnds} {σ : DSt} {μ : Mem} {k : Int} (e1 : σ[i]? = some (some (.int k))) (h : te σ μ fun y μ1 => ∃ j : Int, y = .int j ∧ De.nx (σ.set i (some (.int (k + j)))) μ1) : dAug i te De σ μ := ⟨k, e1, h⟩
section
variable {σ : DSt} {μ : Mem} {Q : D → Mem → Prop}
theorem e_slS {te : DTE} {tl th : DTO} (h : te σ μ fun x μ1 => tl σ μ1 fun l μ2 => th σ μ2 fun u μ3 => ∃ z, x = .str z ∧ z.length ≤ sizeLine ∧ Q (.str (cutS z l u)) μ3) : dSlS te tl th σ μ Q := h
theorem e_findT {ta tb : DTE} (h : ta σ μ fun x μ1 => ∃ a, x = .str a ∧ tb σ μ1 fun y μ2 => ∃ b, y = .str b ∧ Q (.int (Txt.find a b)) μ2) : dFind ta tb σ μ Q := h
theorem e_indexT {ta tb : DTE} (h : ta σ μ fun x μ1 => ∃ a, x = .str a ∧ tb σ μ1 fun y μ2 => ∃ b i rest, y = .str b ∧ Builtin.Str.occurrences a b 0 a.length 1 = i :: rest ∧ Q (.int (i : Nat)) μ2) : dIndexT ta tb σ μ Q := h
theorem e_joinT {ta tb : DTE} (h : ta σ μ fun x μ1 => ∃ a, x = .str a ∧ tb σ μ1 fun y μ2 => ∃ ys : List Str, seqOf μ2 y = some (ys.map D.str) ∧ (ys.map (·.length)).sum + ys.length * a.length ≤ 16777216 ∧ Q (.str (Txt.join a ys)) μ2) : dJoin ta tb σ μ Q := h
theorem e_itS {te : DTE} {Q : List D → Mem → Prop} (h : te σ μ fun d μ1 => ∃ z : Str, d = .str z ∧ Q (z.cps.toList.map fun c => D.str ⟨#[c]⟩) μ1) : dItS te σ μ Q := h
theorem e_strx {z : Str} {R : Str → Prop} (h : R z) : ∃ z', D.str z = .str z' ∧ R z' := ⟨z, rfl, h⟩
theorem e_intj {z : Int} {R : Int → Prop} (h : R z) : ∃ z', D.int z = .int z' ∧ R z' := ⟨z, rfl, h⟩
theorem e_catS {i j : Str} (h1 : i.length + j.length ≤ sizeLine) (h : Q (.str (i ++ j)) μ) : dCatS (.str i) (.str j) μ Q := ⟨i, j, rfl, rfl, h1, h⟩
end
end
end DL

set_option maxRecDepth 100000
/-! max(a list of ints, default=an int) -/
namespace DL
open PySem PySem.Spec PyProof.Rows L2 PySem.W
def maxDef (i : Int) : List Int → Int
  | [] => i
  | n :: ns => ns.foldl max n
def rMaxI (K : PySem.W.Frag) : List V → List V → Hp → VK → Prop := fun vs zs H Q => ∃ (a : Addr) (ns : List Int) (i : Int), vs = [V.ref a] ∧ zs = [V.int i] ∧ SqL K H a (ns.map V.int) ∧ Q (.int (maxDef i ns)) H
theorem ints_reads {h : Heap} : ∀ {ns : List Int} {us : List Value}, Vals (ns.map V.int) us → ReadsAll h us (ns.map PyData.int) []
  | [], _, .nil => .nil
  | n :: ns, u :: us, .cons r rs => by
    obtain ⟨t, rfl⟩ := r
    exact ReadsAll.cons (as := []) (Reads.int n t) (ints_reads rs)
theorem ints_alike (ns : List Int) : AlikeAll (ns.map PyData.int) := by
  refine ⟨fun x hx y hy => ?_, fun x hx => ?_⟩
  · obtain ⟨i, _, rfl⟩ := List.mem_map.mp hx
    obtain ⟨j, _, rfl⟩ := List.mem_map.mp hy
    rfl
  · obtain ⟨i, _, rfl⟩ := List.mem_map.mp hx
    exact fun z => nomatch z
theorem ints_depth : ∀ ns : List Int, PyData.depthAll (ns.map PyData.int) = 0 ∨ PyData.depthAll (ns.map PyData.int) ≤ 1
  | [] => .inl (by simp [PyData.depthAll])
  | n :: ns => by
    refine .inr ?_
    simp only [List.map_cons, PyData.depthAll]
    refine Nat.max_le.mpr ⟨by simp [PyData.depth], ?_⟩
    rcases ints_depth ns with h | h <;> omega
theorem cr_maxI {X : Cx} (hc : X.calm = true) (hu : X.A.units + 64 < cLine) : CallRK X (.builtin "max") [Str.ofString "default"] (rMaxI X.K) := by
  intro pins s σ H xs zs us ws Q I rx rz h
  obtain ⟨a, ns, i, rfl, rfl, hs, q⟩ := h
  obtain ⟨its, rv, hl, _⟩ := I.list hs
  rw [Vals.ref1 rx]
  obtain ⟨w, rfl, t, rfl⟩ : ∃ w, ws = [w] ∧ ∃ t, w = .int i t := by
    cases rz with
    | cons r rs =>
      cases rs
      obtain ⟨t, rfl⟩ := r
      exact ⟨_, rfl, t, rfl⟩
  have hd : PyData.depthAll (ns.map PyData.int) ≤ 1 := by rcases ints_depth ns with h | h <;> omega
  refine max_list_default (I.ok.hd hc) hl.isList (by simpa using ints_reads rv) (ints_alike ns) (by omega) (fun h0 h' tk hk => ?_) fun y ys j v h' tk bs he hv hr hk => ?_
  · cases ns with
    | nil => exact ⟨.int i, H, I.kept hk, ⟨_, rfl⟩, q⟩
    | cons n ns => cases h0
  · cases ns with
    | nil => cases he
    | cons n ns =>
      obtain ⟨rfl, rfl⟩ : PyData.int n = y ∧ ns.map PyData.int = ys := by
        rw [List.map_cons] at he
        exact List.cons.inj he
      rw [maxD_ints] at hr
      cases hr
      exact ⟨.int _, H, I.kept hk, ⟨_, rfl⟩, q⟩
theorem ints_rps {K : PySem.W.Frag} {bx : List Addr} {M : Addr → Prop} {H : Hp} : ∀ {ns : List Int} {xs : List V}, Rps K bx M H (ns.map D.int) xs → xs = ns.map V.int
  | [], _, r => r
  | n :: ns, _, r => by
    obtain ⟨v, vr, rfl, r1, r2⟩ := r
    rw [show v = .int n from r1, ints_rps r2]; rfl
def dMaxDef (ta tb : DTE) : DTE := fun σd μ Q => ta σd μ fun x μ1 => tb σd μ1 fun y μ2 => ∃ (ns : List Int) (i : Int), lstOf μ2 x = some (ns.map D.int) ∧ y = .int i ∧ Q (.int (maxDef i ns)) μ2
theorem de_maxDef {X : Cx} {e e2 : Expr} {ta tb : DTE} {p kpos pos : Pos} (hc : X.calm = true) (hu : X.A.units + 64 < cLine) (hg : Gl X "max") (hm : X.mg "max" = none) (ha : DE X e ta) (hb : DE X e2 tb)
    (hp : ∀ te te', PE X e te → PE X e2 te' → PE X (.Call (.Name "max" p) [e] [⟨some "default", e2, kpos⟩] pos) (tCKw (rMaxI X.K) (tCons te tNil) (tCons te' tNil))) : DE X (.Call (.Name "max" p) [e] [⟨some "default", e2, kpos⟩] pos) (dMaxDef ta tb) := by
  obtain ⟨te, pa, ha⟩ := ha.ex
  obtain ⟨te', pb, hb⟩ := hb.ex
  refine ⟨_, hp _ _ pa pb, fun G M σ H σd μ Q R hK S hq k => ?_⟩
  refine ha G M σ H σd μ _ _ hK S hq fun v H1 d μ1 S1 r1 q1 => ?_
  refine hb (G.pin v d) M σ H1 σd μ1 _ _ hK (S1.pin r1) q1 fun w H2 y μ2 S2 r2 q2 => ?_
  obtain ⟨S2', r⟩ := S2.unpin
  obtain ⟨ns, i, e1, rfl, q⟩ := q2
  obtain ⟨a, xs, rfl, hs, rs⟩ := sq_lst S2' r e1
  rw [ints_rps rs, hK] at hs
  exact ⟨a, ns, i, rfl, by rw [show w = .int i from r2], hs, k _ _ (.int _) _ S2' rfl q⟩
theorem e_maxDef {ta tb : DTE} {σ : DSt} {μ : Mem} {Q : D → Mem → Prop} (h : ta σ μ fun x μ1 => tb σ μ1 fun y μ2 => ∃ (ns : List Int) (i : Int), lstOf μ2 x = some (ns.map D.int) ∧ y = .int i ∧ Q (.int (maxDef i ns)) μ2) : dMaxDef ta tb σ μ Q := h
end DL

set_option maxRecDepth 100000
namespace DL
open PySem PySem.Spec L2 PyProof.Rows
/-! ### strip and ljust with signs told -/
section
variable {X : Cx}
def rStrip : V → List V → Hp → VK → Prop := fun x xs H Q => ∃ a b, x = .str a ∧ xs = [.str b] ∧ a.length ≤ sizeLine ∧ Q (.str (Txt.stripChars a b)) H
def rLjust : V → List V → Hp → VK → Prop := fun x xs H Q => ∃ (a : Str) (i : Int) (f : Str), x = .str a ∧ xs = [.int i, .str f] ∧ (PadOk i = true ∧ f.length = 1) ∧ Q (.str (Txt.ljustF a i (f.cps.getD 0 0))) H
theorem mt_ljustF : MtR X "str.ljust" rLjust := by
  intro pins s σ H x xs v us Q I rx rs h
  obtain ⟨a, i, f, rfl, rfl, ⟨h1, h2⟩, h⟩ := h
  obtain ⟨t, rfl⟩ := rx
  cases rs with
  | cons r1 rs =>
    cases rs with
    | cons r2 rs =>
      cases rs
      obtain ⟨u, rfl⟩ := r1
      obtain ⟨z, rfl⟩ := r2
      exact ljust_fill h1 h2 fun t' k => ⟨.str (Txt.ljustF a i (f.cps.getD 0 0)), H, I.tok k, ⟨t', rfl⟩, h⟩
end
section
variable {X : Cx} {o e e2 : Expr} {ta tb tc : DTE}
/-- x.strip(signs) -/
def dStrip (ta tb : DTE) : DTE := fun σd μ Q => ta σd μ fun x μ1 => ∃ a, x = .str a ∧ a.length ≤ sizeLine ∧ tb σd μ1 fun y μ2 => ∃ b, y = .str b ∧ Q (.str (Txt.stripChars a b)) μ2
theorem de_strip {apos cpos : Pos} (ho : DE X o ta) (hb : DE X e tb) (hp : ∀ te te', PE X o te → PE X e te' → PE X (.Call (.Attribute o "strip" apos) [e] [] cpos) (tBM X.K "str" rStrip te (tCons te' tNil)) := by exact fun _ _ a b => pe_bm PySem.F.plainAttrs_str PySem.F.slot_str_strip PySem.F.type_str_strip mt_stripChars a (pa_cons b pa_nil)) :
    DE X (.Call (.Attribute o "strip" apos) [e] [] cpos) (dStrip ta tb) := by
  obtain ⟨te, p, h⟩ := ho.ex
  obtain ⟨te', p', h'⟩ := hb.ex
  refine ⟨_, hp _ _ p p', fun G M σ H σd μ Q R hK S q k => ?_⟩
  refine h G M σ H σd μ _ _ hK S q fun v1 H1 d1 μ1 S1 r1 q1 => ?_
  obtain ⟨a, rfl, z, q1⟩ := q1
  cases (show v1 = .str a from r1)
  refine ⟨rfl, ?_⟩
  refine h' G M σ H1 σd μ1 _ _ hK S1 q1 fun v2 H2 d2 μ2 S2 r2 q2 => ?_
  obtain ⟨b, rfl, q⟩ := q2
  cases (show v2 = .str b from r2)
  exact ⟨a, b, rfl, rfl, z, k _ _ _ _ S2 (rpS _) q⟩
theorem e_strip {σ : DSt} {μ : Mem} {Q : D → Mem → Prop} (h : ta σ μ fun x μ1 => ∃ a, x = .str a ∧ a.length ≤ sizeLine ∧ tb σ μ1 fun y μ2 => ∃ b, y = .str b ∧ Q (.str (Txt.stripChars a b)) μ2) : dStrip ta tb σ μ Q := h
/-- x.ljust(n, sign) -/
def dLjust (ta tb tc : DTE) : DTE := fun σd μ Q => ta σd μ fun x μ1 => ∃ a : Str, x = .str a ∧ tb σd μ1 fun y μ2 => ∃ i : Int, y = .int i ∧ tc σd μ2 fun z μ3 => ∃ f : Str, z = .str f ∧ PadOk i = true ∧ f.length = 1 ∧ Q (.str (Txt.ljustF a i (f.cps.getD 0 0))) μ3
theorem de_ljust {apos cpos : Pos} (ho : DE X o ta) (hb : DE X e tb) (hc : DE X e2 tc) (hp : ∀ te te' te'', PE X o te → PE X e te' → PE X e2 te'' → PE X (.Call (.Attribute o "ljust" apos) [e, e2] [] cpos) (tBM X.K "str" rLjust te (tCons te' (tCons te'' tNil))) := by exact fun _ _ _ a b c => pe_bm PySem.F.plainAttrs_str PySem.F.slot_str_ljust PySem.F.type_str_ljust mt_ljustF a (pa_cons b (pa_cons c pa_nil))) :
    DE X (.Call (.Attribute o "ljust" apos) [e, e2] [] cpos) (dLjust ta tb tc) := by
  obtain ⟨te, p, h⟩ := ho.ex
  obtain ⟨te', p', h'⟩ := hb.ex
  obtain ⟨te'', p'', h''⟩ := hc.ex
  refine ⟨_, hp _ _ _ p p' p'', fun G M σ H σd μ Q R hK S q k => ?_⟩
  refine h G M σ H σd μ _ _ hK S q fun v1 H1 d1 μ1 S1 r1 q1 => ?_
  obtain ⟨a, rfl, q1⟩ := q1
  cases (show v1 = .str a from r1)
  refine ⟨rfl, ?_⟩
  refine h' G M σ H1 σd μ1 _ _ hK S1 q1 fun v2 H2 d2 μ2 S2 r2 q2 => ?_
  obtain ⟨i, rfl, q2⟩ := q2
  cases (show v2 = .int i from r2)
  refine h'' G M σ H2 σd μ2 _ _ hK S2 q2 fun v3 H3 d3 μ3 S3 r3 q3 => ?_
  obtain ⟨f, rfl, z1, z2, q⟩ := q3
  cases (show v3 = .str f from r3)
  exact ⟨a, i, f, rfl, rfl, ⟨z1, z2⟩, k _ _ _ _ S3 (rpS _) q⟩
theorem e_ljust {σ : DSt} {μ : Mem} {Q : D → Mem → Prop} (h : ta σ μ fun x μ1 => ∃ a : Str, x = .str a ∧ tb σ μ1 fun y μ2 => ∃ i : Int, y = .int i ∧ tc σ μ2 fun z μ3 => ∃ f : Str, z = .str f ∧ PadOk i = true ∧ f.length = 1 ∧ Q (.str (Txt.ljustF a i (f.cps.getD 0 0))) μ3) : dLjust ta tb tc σ μ Q := h
end
end DL

set_option maxRecDepth 100000
namespace DL
open PySem PySem.Spec PyProof.Rows L2
/-! ### a module's dict of tuples of ints, keys told -/
def TabI (w : World) (K : PySem.W.Frag) (mg : Str → Option Value) (x : Str) (tab : List (Str × List Int)) : Prop :=
  ∃ a es n, mg x = some (.ref a) ∧ KDict K w a es n ∧ ∀ z zs, (z, zs) ∈ tab → ∃ b, PySem.W.nsIn K a z = some (some (.ref b)) ∧ SqT K (fun _ => none) b (zs.map V.int)
section
variable {X : Cx} {x : Str} {tab : List (Str × List Int)} {e : Expr} {te : DTE} {p1 pos : Pos}
def dIxTab (tab : List (Str × List Int)) (te : DTE) : DTE := fun σd μ Q => te σd μ fun d μ1 => ∃ z zs, d = .str z ∧ (z, zs) ∈ tab ∧ Q (.tup (zs.map D.int)) μ1
theorem de_ixTab (hg : Gl X x) (h : TabI X.w X.K X.mg x tab) (he : DE X e te) (hs : PlainIx e := by exact fun _ _ => rfl) (hd : (x == ("__debug__" : Str)) = false := by decide) : DE X (.Subscript (.Name x p1) e pos) (dIxTab tab te) := by
  obtain ⟨a, es, n, hm, KD, hv⟩ := h
  obtain ⟨t', p', h'⟩ := he.ex
  refine ⟨_, pe_ix ix_kdict (pe_glob (v := .ref a) hg hm rfl hd) p' hs, fun G M σ H σd μ Q R hK S q k => ?_⟩
  refine h' G M σ H σd μ _ _ hK S q fun v1 H1 d1 μ1 S1 r1 q1 => ?_
  obtain ⟨z, zs, rfl, hm2, q1⟩ := q1
  cases (show v1 = .str z from r1)
  obtain ⟨b, hb, hq⟩ := hv z zs hm2
  exact ⟨a, z, .ref b, rfl, rfl, ⟨es, n, .ref b, KD.at_, KD.lit, hb, rfl⟩, k (.ref b) H1 (.tup (zs.map D.int)) μ1 S1 ⟨b, _, rfl, .inr (by rw [hK]; exact hq), Rps.of_ints zs⟩ q1⟩
def dNotInTab (tab : List (Str × List Int)) (te : DTE) : DTE := fun σd μ Q => te σd μ fun d μ1 => ∃ z zs, d = .str z ∧ (z, zs) ∈ tab ∧ Q (.bl false) μ1
theorem dt_notInTab (hg : Gl X x) (h : TabI X.w X.K X.mg x tab) (he : DE X e te) (hd : (x == ("__debug__" : Str)) = false := by decide) : DT X (.Compare e [.NotIn] [.Name x p1] pos) (dTest (dNotInTab tab te)) := by
  obtain ⟨a, es, n, hm, KD, hv⟩ := h
  obtain ⟨t', p', h'⟩ := he.ex
  refine ⟨_, pt_cmpR (op_notIn_kd KD) p' (pe_glob (v := .ref a) hg hm rfl hd) rfl, fun G M σ H σd μ Q R hK S q k => ?_⟩
  refine h' G M σ H σd μ _ _ hK S q fun v1 H1 d1 μ1 S1 r1 q1 => ?_
  obtain ⟨z, zs, rfl, hm2, b, hb2, q1⟩ := q1
  cases hb2
  cases (show v1 = .str z from r1)
  obtain ⟨b, hb, hq⟩ := hv z zs hm2
  exact ⟨z, _, rfl, rfl, hb, false, rfl, k false H1 μ1 S1 q1⟩
theorem e_ixTab {σ : DSt} {μ : Mem} {Q : D → Mem → Prop} (h : te σ μ fun d μ1 => ∃ z zs, d = .str z ∧ (z, zs) ∈ tab ∧ Q (.tup (zs.map D.int)) μ1) : dIxTab tab te σ μ Q := h
theorem e_notInTab {σ : DSt} {μ : Mem} {Q : D → Mem → Prop} (h : te σ μ fun d μ1 => ∃ z zs, d = .str z ∧ (z, zs) ∈ tab ∧ Q (.bl false) μ1) : dNotInTab tab te σ μ Q := h
end
theorem walk_TW {l : PySem.W.OpenLaw} {n k : Nat} {q : Program} {loose : List Str} {XP : (Str → Option Value) → Heap → Prop} {YP : World → Heap → Prop} {d : PySem.DefRec} {K : Params → PySem.W.Frag} {F : DSp} {x : Str} {TX : World → PySem.W.Frag → (Str → Option Value) → Prop}
    (hn : l.most = some n) (hn2 : n ≤ sizeLine) (hdf : d.params.defaults = []) (hr : Room k PySem.callerA)
    (hY : ∀ (w : World) (h : Heap), YP w h → (K w.params).In h)
    (Fn : ∀ (w : World) (K : PySem.W.Frag) (mg : Str → Option Value) (base : Heap), TX w K mg → Has l.prog w K mg base k d.name [x] F)
    (Df : ∀ (w : World) (K : PySem.W.Frag) (mg : Str → Option Value), TX w K mg → ∃ st, Dfn K mg d.name st [x])
    (mk : ∀ (w : World) (mg : Str → Option Value) (h : Heap), (K w.params).In h → h.Ns mainGlobals mg → TX w (K w.params) mg)
    (hF : ∀ (ns : List Int), ns.length ≤ n → ∀ Q : D → Mem → Prop, (∀ d μ, d = .bl true → Q d μ) → F [scr ns] [] Q) :
    PySem.W.WalkO q loose XP YP l.row.toRowW d [] (fun f vs => PySem.call f vs) :=
  walk_H hn hn2 hdf hr hY (fun w mg h KX G base _ _ => Fn w _ mg base (mk w mg h KX G)) (fun w mg h KX G => Df w _ mg (mk w mg h KX G)) hF
end DL

set_option maxRecDepth 100000
set_option maxHeartbeats 1000000
namespace DL
open PySem PySem.Spec PyProof.Rows L2
/-! ### a, *b = tuple -/
section
variable {prog : Program} {w : World} {A : Around} {E : Value → Shared → Prop} {s : Shared}
/-- a tuple's iterator from its second item on -/
theorem tup_rest {n : Nat} (hh : A.handled = none) (I t : Addr) (hne : t ≠ I) (items : Array Value) (hn : items.size = n + 1) :
    WalksS prog w A I [I, t] [I] (fun a b => a = b) n (fun i v => items[i + 1]? = some v) (fun i s => IsTupIter s.heap I t (i + 1) ∧ IsTup s.heap t items) where
  sub := fun b hb => by simp at hb; simp [hb]
  grefl := fun _ => rfl
  gtrans := fun _ _ _ a b => a.trans b
  frame := fun i s h' tk st _ hk => by
    obtain ⟨⟨o, ho, q⟩, ⟨o2, ho2, q2⟩⟩ := st
    exact ⟨⟨o, hk I (by simp) o ho, q⟩, ⟨o2, hk t (by simp) o2 ho2, q2⟩⟩
  item := fun i s Q E hi st hQ => by
    obtain ⟨x, hx⟩ : ∃ x, items[i + 1]? = some x := ⟨items[i + 1], by simp [show i + 1 < items.size by omega]⟩
    refine next_tuple_item st.1 st.2 hx fun h' hit' hs' => ?_
    exact hQ x { s with heap := h' } hx ⟨hit', st.2.extBut hs'.extBut hne⟩ ⟨fun b o hb e => hs'.extBut b o (fun h => hb (by simp [h])) e, rfl, rfl, rfl, Nat.le_refl _⟩
  done := fun s Q E st hQ => by
    refine next_tuple_end hh st.1 st.2 (by simp [hn]) fun h' he' => ?_
    exact hQ { s with heap := h' } ⟨fun b o hb e => he' b o (fun h => hb (by simp [h])) e, rfl, rfl, rfl, Nat.le_refl _⟩
  self := fun i s Q E st hQ => by
    obtain ⟨o, ho, hc, hd⟩ := st.1
    exact wpAny_pyIter_tupleiter ⟨o, ho, hc, hd⟩ hQ
theorem items_rest {items : Array Value} {n : Nat} {acc : Array Value} (hn : items.size = n + 1) (h : ItemsOf (fun i v => items[i + 1]? = some v) acc n) : acc.toList = items.toList.drop 1 := by
  refine List.ext_getElem? fun j => ?_
  rw [List.getElem?_drop, Array.getElem?_toList, Array.getElem?_toList, Nat.add_comm 1 j]
  cases e : acc[j]? with
  | some v => exact (h.2 j v e).symm
  | none =>
    have : acc.size ≤ j := Array.getElem?_eq_none_iff.mp e
    rw [h.1] at this
    exact (Array.getElem?_eq_none_iff.mpr (by omega)).symm
theorem unpack_star {t : Addr} {items : Array Value} {x : Value} {xs : List Value} {Q : List Value → Shared → Prop} (hh : A.handled = none) (ht : IsTup s.heap t items) (hi : items.toList = x :: xs) (hz : xs.length ≤ sizeLine)
    (hQ : ∀ s1 : Shared, (∀ b o, s.heap.get? b = some o → s1.heap.get? b = some o) → s1.gens = s.gens → s1.drawn = s.drawn → s1.os = s.os →
      Q [x, .ref s1.heap.objs.size] { s1 with heap := s1.heap.push { cls := .type "list", data := .seq xs.toArray } }) :
    wpAny (model prog w) A (unpackItems (.ref t) 2 (some 1)) Q E s := by
  have hlt : t < s.heap.objs.size := by obtain ⟨o, ho, _⟩ := ht; exact Heap.lt_size ho
  have hne : t ≠ s.heap.objs.size := Nat.ne_of_lt hlt
  have hsz : items.size = xs.length + 1 := by rw [← Array.length_toList, hi]; rfl
  unfold unpackItems
  refine wpAny_bind ?_
  unfold notIterableAtAll
  refine wpAny_bind (wpAny_specialOf ht.typeIs slot_tuple_iter.lookup ?_)
  refine wpAny_pure ?_
  simp only [Bool.false_eq_true, if_false]
  refine wpAny_bind (wpAny_holding (iter_tuple ht ?_))
  refine wpAny_bind (wpAny_holding (draw_tuple hne 1 0 _ _ ⟨_, Heap.get?_push_size _ rfl, rfl, rfl⟩ (ht.push _) (by omega) fun h₁ hit₁ hs₁ => ?_))
  have h1 : List.take 1 (List.drop 0 items.toList) = [x] := by rw [hi]; rfl
  rw [h1]
  have ht₁ : IsTup h₁ t items := (ht.push _).extBut hs₁.extBut hne
  have k1 : ∀ b o, s.heap.get? b = some o → h₁.get? b = some o := fun b o e => hs₁.extBut b o (Nat.ne_of_lt (Heap.lt_size e)) (Heap.get?_push_of_some _ e)
  rw [if_neg (by simp)]
  have hit₁' : IsTupIter h₁ s.heap.objs.size t (0 + 1) := hit₁
  have hin : ∀ b ∈ [s.heap.objs.size, t], b < h₁.objs.size := fun b hb => by
    rcases List.mem_cons.mp hb with e | e
    · rw [e]; obtain ⟨o, ho, _⟩ := hit₁'; exact Heap.lt_size ho
    · rw [List.mem_singleton.mp e]; obtain ⟨o, ho, _⟩ := ht₁; exact Heap.lt_size ho
  refine wpAny_bind (wpAny_holding (wpAny_collect_iter (s := { s with heap := h₁ }) (T := "tuple_iterator") (.inr (.inr (.inr rfl))) (tup_rest (A := A.in1) hh s.heap.objs.size t hne items hsz)
    (fun i s st => by obtain ⟨⟨o, ho, hc, _⟩, _⟩ := st; exact ⟨o, ho, hc⟩) ⟨hit₁', ht₁⟩ hin (by simp) (fun s' acc hm ha => ?_) hz))
  rw [items_rest hsz ha, hi]
  show wpAny _ _ (if xs.length < 0 then _ else _) _ _ _
  rw [if_neg (by omega)]
  refine wpAny_bind (wpAny_newList (items := xs.take (xs.length - 0)) ?_ (by rw [List.length_take]; omega))
  have e3 : List.take (xs.length - 0) xs = xs := by rw [Nat.sub_zero, List.take_length]
  have e4 : List.drop ((List.drop 1 (x :: xs)).length - (2 - 1 - 1)) (List.drop 1 (x :: xs)) = [] := by
    show List.drop (xs.length - 0) xs = []
    rw [Nat.sub_zero, List.drop_length]
  rw [e3, e4]
  refine wpAny_pure ?_
  refine hQ s' (fun b o e => hm.heap b o (fun z => ?_) (k1 b o e)) hm.gens.symm hm.drawn hm.os
  have := Heap.lt_size e
  rw [List.mem_singleton.mp z] at this
  exact Nat.lt_irrefl _ this
end
section
variable {X : Cx} {e1 e2 : Expr} {p2 pos : Pos}
def gStar (K : PySem.W.Frag) (t : TGs) : TG := fun v σ H Q => ∃ a x xs, v = .ref a ∧ SqT K H a (x :: xs) ∧ ∀ q, H q = none → t [x, .ref q] σ (upd H q (.lst xs)) Q
theorem pgs_star {t u : TG} (h1 : PG X e1 t) (h2 : PG X e2 u) (hs : (assignEach [e1, .Starred e2 p2] X.env).map (·.2) = [assign e1 X.env, assign e2 X.env] := by rfl) : PGs X [e1, .Starred e2 p2] (gCons t (gCons u gNil)) := by
  refine ⟨fun pins s σ H vs us Q I r h => ?_⟩
  obtain ⟨v, vr, rfl, h⟩ := h
  cases r with
  | cons r rr =>
    rw [hs]
    refine assignInOrder_cons (thn (h1.run pins s σ H _ _ _ I r h) fun _ s1 ⟨σ1, H1, I1, q1⟩ => ?_)
    obtain ⟨v2, vr2, rfl, q1⟩ := q1
    cases rr with
    | cons r2 rr2 =>
      refine assignInOrder_cons (thn (h2.run pins s1 σ1 H1 _ _ _ I1 r2 q1) fun _ s2 ⟨σ2, H2, I2, q2⟩ => ?_)
      obtain ⟨rfl, q2⟩ := q2
      cases rr2
      exact assignInOrder_nil ⟨σ2, H2, I2, q2⟩
theorem pg_star {k : Nat} {t : TGs} (hc : X.calm = true) (h : PGs X [e1, .Starred e2 p2] t) (hn : (assignEach [e1, .Starred e2 p2] X.env).length = 2 := by rfl) (hst : (assignEach [e1, .Starred e2 p2] X.env).findIdx? (·.1) = some 1 := by rfl) :
    PG X (.Tuple [e1, .Starred e2 p2] k pos) (gStar X.K t) := by
  refine ⟨fun pins s σ H v u Q I r hw => ?_⟩
  obtain ⟨a, x, xs, rfl, hq, hw⟩ := hw
  cases r
  obtain ⟨its, rv, ht, hz⟩ := I.tuple hq
  rw [assign_Tuple]
  refine wpAny_bind (wpAny_standAt ?_)
  unfold unpack
  rw [hn, hst]
  cases rv with
  | @cons _ y _ ys r1 rr =>
    refine wpAny_bind (wpAny_holding (unpack_star (I.ok.hd hc) ht rfl (by have := rr.length; rw [List.length_cons] at hz; omega) fun s1 k1 g1 d1 o1 => ?_))
    obtain ⟨hh, g, d, tk, os⟩ := s1
    cases g1
    cases d1
    cases o1
    have I1 : Inv X pins σ H { s with heap := hh, toks := tk } := I.kept k1
    have I2 := I1.lnew (t' := tk) (ys := xs) rr (by rw [List.length_cons] at hz; omega)
    exact h.run pins _ σ _ [x, .ref hh.objs.size] _ Q I2 (.cons r1 (.cons rfl .nil)) (hw _ I1.fresh)
end
section
variable {X : Cx} {e1 e2 : Expr} {p2 pos : Pos}
/-- a, *b of a tuple -/
def dgStar (t u : DTG) : DTG := fun d σd μ Q => ∃ x l, d = .tup (x :: l) ∧ t x σd μ fun σ1 μ1 => u (.lst l) σ1 μ1 Q
theorem dg_star {k : Nat} {t u : DTG} (hc : X.calm = true) (h1 : DG X e1 t) (h2 : DG X e2 u)
    (hp : ∀ (g1 g2 : TG), PG X e1 g1 → PG X e2 g2 → PG X (.Tuple [e1, .Starred e2 p2] k pos) (gStar X.K (gCons g1 (gCons g2 gNil))) := by exact fun _ _ a b => pg_star rfl (pgs_star a b)) : DG X (.Tuple [e1, .Starred e2 p2] k pos) (dgStar t u) := by
  obtain ⟨g1, pa, h1⟩ := h1.ex
  obtain ⟨g2, pb, h2⟩ := h2.ex
  refine ⟨_, hp _ _ pa pb, fun G M σ H σd μ d v Q R hK S r q k => ?_⟩
  obtain ⟨x, l, rfl, q⟩ := q
  obtain ⟨a, xs, rfl, hs, rs⟩ := r
  obtain ⟨y, ys, rfl, r1, r2⟩ := rs
  refine ⟨a, y, ys, rfl, ?_, fun p hp => ?_⟩
  · rw [← hK]; exact hs.sq
  refine ⟨_, _, rfl, ?_⟩
  have S' := S.new (o := .lst ys) hp
  have r1' := Rp.stay (S.kpNew (o := .lst ys) hp) _ _ r1
  have rl := S.newL hp r2
  refine h1 (G.pin (.ref p) (.lst l)) M σ _ σd μ x y _ _ hK (S'.pin rl) r1' q fun σ' H' σd' μ' S2 q2 => ?_
  obtain ⟨S3, r3⟩ := S2.unpin
  exact ⟨_, _, rfl, h2 G M σ' H' σd' μ' (.lst l) _ _ _ hK S3 r3 q2 fun σ'' H'' σd'' μ'' S4 q4 => ⟨rfl, k _ _ _ _ S4 q4⟩⟩
theorem e_gStar {t u : DTG} {x : D} {l : List D} {σ : DSt} {μ : Mem} {Q : DSt → Mem → Prop} (h : t x σ μ fun σ1 μ1 => u (.lst l) σ1 μ1 Q) : dgStar t u (.tup (x :: l)) σ μ Q := ⟨x, l, rfl, h⟩
end
end DL

set_option maxRecDepth 100000
set_option maxHeartbeats 1000000
namespace DL
open PySem PySem.Spec PyProof.Rows L2
/-! ### a written dict of texts to ints, d[text], d.get(text, x) -/
def Gm.holdO (G : Gm) (p : Addr) (o : HO) : Gm := { G with H0 := fun a => if a = p then some o else G.H0 a }
section
variable {G : Gm} {M : Addr → Prop} {σ : L2.St} {H : Hp} {σd : DSt} {μ : Mem} {p : Addr} {o : HO}
theorem SR.holdO (S : SR G M σ H σd μ) (hp : H p = none) : SR (G.holdO p o) (fun a => M a ∨ a = p) σ (upd H p o) σd μ := by
  have off : ∀ a, M a → a ≠ p := fun a m => by obtain ⟨u, e⟩ := S.mt a m; exact ne_of_none e hp
  have kk : Kp M (fun a => M a ∨ a = p) H (upd H p o) := fun a u m e => by
    have n : a ≠ p := ne_of_none e hp
    exact ⟨(upd_ne n).trans e, fun z => z.elim m n⟩
  refine ⟨S.len, ?_, S.dist, S.blen, ?_, ?_, fun a m => .inl (S.m0 a m), fun q hq => Rp.stay kk _ _ (S.fr q hq), ?_, S.nd, S.bm, ?_⟩
  · intro j d e
    obtain ⟨v, ev, r⟩ := S.slot j d e
    refine ⟨v, ev, ?_⟩
    cases d with
    | own l =>
      obtain ⟨q, xs, rfl, m, h0, hq, r⟩ := r
      have n : q ≠ p := ne_of_none hq hp
      exact ⟨q, xs, rfl, .inl m, (if_neg n).trans h0, (upd_ne n).trans hq, Rps.stay kk _ _ r⟩
    | _ => exact Rp.stay kk _ _ r
  · intro j a l e1 e2
    obtain ⟨ys, e3, r3⟩ := S.box j a l e1 e2
    exact ⟨ys, (upd_ne (ne_of_none e3 hp)).trans e3, Rps.stay kk _ _ r3⟩
  · intro a u h1 h2
    by_cases z : a = p
    · subst z
      rw [show (G.holdO a o).H0 a = some o from if_pos rfl] at h2
      cases h2; exact upd_same
    · exact (upd_ne z).trans (S.keep a u h1 ((if_neg z).symm.trans h2))
  · rintro a (m | m)
    · obtain ⟨u, e⟩ := S.mt a m
      exact ⟨u, (upd_ne (off a m)).trans e⟩
    · exact ⟨o, by rw [m]; exact upd_same⟩
  · intro a m
    obtain ⟨u, e⟩ := S.m0t a m
    by_cases z : a = p
    · exact ⟨o, if_pos z⟩
    · exact ⟨u, (if_neg z).trans e⟩
/-- the held object is written, and held no more -/
theorem SR.letO {H2 : Hp} {σd2 : DSt} {σ2 : L2.St} {μ2 : Mem} {u : HO} (S0 : SR G M σ H σd μ) (hp : H p = none) (S : SR (G.holdO p o) (fun a => M a ∨ a = p) σ2 H2 σd2 μ2) : SR G M σ2 (upd H2 p u) σd2 μ2 := by
  obtain ⟨f1, f2⟩ := S0.free hp
  have off : ∀ a, M a → a ≠ p := fun a m => by obtain ⟨u, e⟩ := S0.mt a m; exact ne_of_none e hp
  have kk : Kp (fun a => M a ∨ a = p) M H2 (upd H2 p u) := fun a v m e => by
    have n : a ≠ p := fun z => m (.inr z)
    exact ⟨(upd_ne n).trans e, fun z => m (.inl z)⟩
  refine ⟨S.len, ?_, S.dist, S.blen, ?_, ?_, S0.m0, fun q hq => Rp.stay kk _ _ (S.fr q hq), ?_, S0.nd, S0.bm, S0.m0t⟩
  · intro j d e
    obtain ⟨v, ev, r⟩ := S.slot j d e
    refine ⟨v, ev, ?_⟩
    cases d with
    | own l =>
      obtain ⟨q, xs, rfl, m, h0, hq, r⟩ := r
      have n : q ≠ p := fun z => by
        have h0 : (if q = p then some o else G.H0 q) = none := h0
        rw [if_pos z] at h0; cases h0
      exact ⟨q, xs, rfl, m.resolve_right n, (if_neg n).symm.trans h0, (upd_ne n).trans hq, Rps.stay kk _ _ r⟩
    | _ => exact Rp.stay kk _ _ r
  · intro j a l e1 e2
    obtain ⟨ys, e3, r3⟩ := S.box j a l e1 e2
    have n : a ≠ p := fun z => f2 (by rw [← z]; exact List.mem_of_getElem? e1)
    exact ⟨ys, (upd_ne n).trans e3, Rps.stay kk _ _ r3⟩
  · intro a v h1 h2
    have n : a ≠ p := fun z => by rw [z, f1] at h2; cases h2
    exact (upd_ne n).trans (S.keep a v h1 ((if_neg n).trans h2))
  · intro a m
    obtain ⟨v, e⟩ := S.mt a (.inl m)
    exact ⟨v, (upd_ne (off a m)).trans e⟩
theorem SR.heldO (S0 : SR G M σ H σd μ) (hp : H p = none) {H2 : Hp} {σd2 : DSt} {σ2 : L2.St} {μ2 : Mem} {M' : Addr → Prop} (S : SR (G.holdO p o) M' σ2 H2 σd2 μ2) : H2 p = some o :=
  S.keep p o (S0.free hp).2 (if_pos rfl)
end
def lookD (l : List (Str × Int)) (z : Str) : Option Int := (l.find? fun p => decide (p.1 = z)).map (·.2)
theorem valV_dkv (z : Str) : ∀ l : List (Str × Int), valV (dkv l) (Sum.inr z : Key) = (lookD l z).map V.int
  | [] => rfl
  | p :: l => by
    show valV (((Sum.inr p.1 : Key), V.int p.2) :: dkv l) _ = _
    unfold lookD
    by_cases h : p.1 = z
    · rw [valV_pos (by show (Sum.inr p.1 : Key) = _; rw [h]), List.find?_cons_of_pos (by rw [decide_eq_true h])]
      rfl
    · rw [valV_neg (fun e => h (Sum.inr.inj e)), List.find?_cons_of_neg (by rw [decide_eq_false h]; decide)]
      exact valV_dkv z l
theorem merge_new : ∀ (more acc : List (Key × V)), ((acc ++ more).map (·.1)).Nodup → mergeK acc more = acc ++ more
  | [], acc, _ => (List.append_nil acc).symm
  | p :: more, acc, h => by
    have hn : (acc.any fun kv => decide (kv.1 = p.1)) = false := by
      cases q : acc.any fun kv => decide (kv.1 = p.1) with
      | false => rfl
      | true =>
        obtain ⟨x, hx, e⟩ := List.any_eq_true.mp q
        rw [List.map_append, List.map_cons] at h
        exact absurd (List.mem_map.mpr ⟨x, hx, of_decide_eq_true e⟩) fun m => (List.nodup_append.mp h).2.2 _ m _ List.mem_cons_self rfl
    show mergeK (putK acc p.1 p.2) more = _
    unfold putK
    rw [hn, if_neg Bool.false_ne_true, merge_new more _ (by rw [List.append_assoc]; exact h), List.append_assoc]
    rfl
section
variable {X : Cx} {o e f : Expr} {ta tb tc : DTE} {pos apos cpos : Pos}
def dPairs : List (Str × DTE) → DSt → Mem → (List (Str × Int) → Mem → Prop) → Prop
  | [], _, μ, Q => Q [] μ
  | (k, t) :: r, σ, μ, Q => t σ μ fun d μ1 => ∃ i : Int, d = .int i ∧ dPairs r σ μ1 fun l μ2 => Q ((k, i) :: l) μ2
structure DPs (X : Cx) (pos : Pos) (keys : List (Option Expr)) (values : List Expr) (t : List (Str × DTE)) : Prop where
  ex : ∃ trs, PPs X pos keys values trs ∧ ∀ (G : Gm) (M : Addr → Prop) (σ : L2.St) (H : Hp) (σd : DSt) (μ : Mem) (Q : List (Str × Int) → Mem → Prop) (R : List (V × V) → Hp → Prop), G.K = X.K → SR G M σ H σd μ → dPairs t σd μ Q →
    (∀ H' l μ', SR G M σ H' σd μ' → l.map (·.1) = t.map (·.1) → Q l μ' → R (l.map fun p => (V.str p.1, V.int p.2)) H') → tPairs trs σ H R
theorem dps_nil : DPs X pos [] [] [] := ⟨[], pps_nil, fun G M σ H σd μ Q R hK S q k => k H [] μ S rfl q⟩
theorem dps_cons {ks : List (Option Expr)} {vs : List Expr} {k v : Expr} {z : Str} {t : DTE} {r : List (Str × DTE)} (hk : DE X k (dC (.str z))) (hv : DE X v t) (hr : DPs X pos ks vs r) : DPs X pos (some k :: ks) (v :: vs) ((z, t) :: r) := by
  obtain ⟨tk, pk, hk⟩ := hk.ex
  obtain ⟨tv, pv, hv⟩ := hv.ex
  obtain ⟨trs, pr, hr⟩ := hr.ex
  refine ⟨_, pps_cons pk pv pr, fun G M σ H σd μ Q R hK S q kk => ?_⟩
  refine hk G M σ H σd μ (fun d μ' => d = .str z ∧ μ' = μ) _ hK S ⟨rfl, rfl⟩ fun x H1 d1 μ1 S1 r1 q1 => ?_
  obtain ⟨rfl, rfl⟩ := q1
  cases (show x = .str z from r1)
  refine hv G M σ H1 σd μ1 _ _ hK S1 q fun y H2 d2 μ2 S2 r2 q2 => ?_
  obtain ⟨i, rfl, q2⟩ := q2
  cases (show y = .int i from r2)
  exact hr G M σ H2 σd μ2 _ _ hK S2 q2 fun H3 l μ3 S3 e3 q3 => kk H3 ((z, i) :: l) μ3 S3 (by rw [List.map_cons, List.map_cons, e3]) q3
def dDisp (t : List (Str × DTE)) : DTE := fun σd μ Q => dPairs t σd μ fun l μ1 => Q (.dct l) μ1
theorem de_disp {keys : List (Option Expr)} {values : List Expr} {t : List (Str × DTE)} (h : DPs X pos keys values t) (hn : (t.map (·.1)).Nodup) (h15 : t.length ≤ 15)
    (hall : keys.all (·.isSome) = true := by rfl) (hl : keys.length = values.length := by rfl) (h0 : keys ≠ [] := by exact fun h => nomatch h) (hk : keys.length ≤ 15 := by decide) : DE X (.Dict keys values pos) (dDisp t) := by
  obtain ⟨trs, p, h⟩ := h.ex
  refine ⟨_, pe_disp p hall hl h0 hk, fun G M σ H σd μ Q R hK S q k => ?_⟩
  intro a ha
  refine h (G.holdO a (.dK [])) (fun b => M b ∨ b = a) σ _ σd μ _ _ hK (S.holdO ha) q fun H2 l μ2 S2 el q2 => ?_
  have hnd : ((dkv l).map (·.1)).Nodup := by
    have e : (dkv l).map (·.1) = (l.map (·.1)).map (Sum.inr : Str → Key) := by unfold dkv; rw [List.map_map, List.map_map]; rfl
    rw [e, el]
    exact List.Pairwise.map (Sum.inr : Str → Key) (fun x y hxy e => hxy (Sum.inr.inj e)) hn
  have em : mergeK [] (dkv l) = dkv l := merge_new (dkv l) [] hnd
  refine ⟨S.heldO ha S2, dkv l, by unfold dkv; rw [List.map_map]; rfl, ?_, ?_⟩
  · have : l.length = t.length := by have := congrArg List.length el; rwa [List.length_map, List.length_map] at this
    unfold dkv
    rw [List.length_map, this]
    exact h15
  · rw [em]
    have na : ¬ M a := fun m => by obtain ⟨u, e⟩ := S.mt a m; rw [ha] at e; cases e
    exact k (.ref a) _ (.dct l) μ2 (S.letO ha S2) ⟨a, rfl, na, upd_same⟩ q2
def dIxD : DR2 := fun x y μ Q => ∃ l z i, x = .dct l ∧ y = .str z ∧ lookD l z = some i ∧ Q (.int i) μ
theorem de_ixD (hu : X.A.units + 64 < cLine) (ha : DE X o ta) (hb : DE X e tb) (hs : NoSl e := by exact fun _ _ => rfl) : DE X (.Subscript o e pos) (dOp dIxD ta tb) := by
  obtain ⟨te, pa, ha⟩ := ha.ex
  obtain ⟨te', pb, hb⟩ := hb.ex
  refine ⟨_, pe_dget (by omega) pa pb hs, bin2 (r := fun x y H Q => ∃ a v, x = .ref a ∧ DGet H a y (some v) ∧ Q v H) ha hb fun G M σ H σd μ x y dx dy Q R hK S rx ry q k => ?_⟩
  obtain ⟨l, z, i, rfl, rfl, el, q⟩ := q
  obtain ⟨a, rfl, na, hl⟩ := rx
  cases (show y = .str z from ry)
  have g := DGet.k (k := (Sum.inr z : Key)) hl
  rw [valV_dkv, el] at g
  exact ⟨a, .int i, rfl, g, k _ _ (.int i) _ S rfl q⟩
def dGetD (ta tb tc : DTE) : DTE := fun σd μ Q => ta σd μ fun x μ1 => ∃ l, x = .dct l ∧ tb σd μ1 fun y μ2 => ∃ z, y = .str z ∧ tc σd μ2 fun d μ3 => Q (match lookD l z with | some i => .int i | none => d) μ3
theorem de_getD (hu : X.A.units + 64 < cLine) (ha : DE X o ta) (hb : DE X e tb) (hc : DE X f tc) (m : M2 X o "get" apos e f cpos := by exact ⟨rfl, rfl, rfl, rfl⟩) : DE X (.Call (.Attribute o "get" apos) [e, f] [] cpos) (dGetD ta tb tc) := by
  obtain ⟨te, pa, ha⟩ := ha.ex
  obtain ⟨te', pb, hb⟩ := hb.ex
  obtain ⟨te'', pc, hc⟩ := hc.ex
  refine ⟨_, pe_dget2 (by omega) pa pb pc m, fun G M σ H σd μ Q R hK S q k => ?_⟩
  refine ha G M σ H σd μ _ _ hK S q fun x H1 d1 μ1 S1 r1 q1 => ?_
  obtain ⟨l, rfl, q1⟩ := q1
  obtain ⟨a, rfl, na, hl⟩ := id r1
  refine ⟨a, rfl, .inl ⟨_, .inl hl⟩, ?_⟩
  refine hb (G.pin (.ref a) (.dct l)) M σ H1 σd μ1 _ _ hK (S1.pin r1) q1 fun y H2 d2 μ2 S2 r2 q2 => ?_
  obtain ⟨z, rfl, q2⟩ := q2
  cases (show y = .str z from r2)
  refine hc (G.pin (.ref a) (.dct l)) M σ H2 σd μ2 _ _ hK S2 q2 fun w H3 d3 μ3 S3 r3 q3 => ?_
  obtain ⟨S4, r4⟩ := S3.unpin
  obtain ⟨a', e', na', hl'⟩ := r4
  cases e'
  refine ⟨_, DGet.k (k := (Sum.inr z : Key)) hl', ?_⟩
  rw [valV_dkv]
  cases el : lookD l z with
  | some i =>
    rw [el] at q3
    exact k (.int i) H3 (.int i) μ3 S4 rfl q3
  | none =>
    rw [el] at q3
    exact k w H3 d3 μ3 S4 r3 q3
theorem e_dispI {k : Str} {t : DTE} {r : List (Str × DTE)} {σ : DSt} {μ : Mem} {Q : List (Str × Int) → Mem → Prop} (h : t σ μ fun d μ1 => ∃ i : Int, d = .int i ∧ dPairs r σ μ1 fun l μ2 => Q ((k, i) :: l) μ2) : dPairs ((k, t) :: r) σ μ Q := h
theorem e_disp0 {σ : DSt} {μ : Mem} {Q : List (Str × Int) → Mem → Prop} (h : Q [] μ) : dPairs [] σ μ Q := h
theorem e_disp {t : List (Str × DTE)} {σ : DSt} {μ : Mem} {Q : D → Mem → Prop} (h : dPairs t σ μ fun l μ1 => Q (.dct l) μ1) : dDisp t σ μ Q := h
theorem e_ixD {l : List (Str × Int)} {z : Str} {i : Int} {μ : Mem} {Q : D → Mem → Prop} (e : lookD l z = some i) (h : Q (.int i) μ) : dIxD (.dct l) (.str z) μ Q := ⟨l, z, i, rfl, rfl, e, h⟩
end
end DL

set_option maxRecDepth 100000
namespace DL
open PySem PySem.Spec PyProof.Rows L2
/-! ### a loop whose body may raise -/
def dLoopX (g : DTG) (tb : DTSX) (De : DEnds) (Ex : DEx) : List D → DSt → Mem → Prop
  | [], σd, μ => De.nx σd μ
  | x :: r, σd, μ => g x σd μ fun σ2 μ2 => tb { nx := dLoopX g tb De Ex r, rt := De.rt, bk := De.nx, ct := dLoopX g tb De Ex r } Ex σ2 μ2
def dForX (ti : DTI) (g : DTG) (tb : DTSX) : DTSX := fun De Ex σd μ => ti σd μ fun items μ1 => dLoopX g tb De Ex items σd μ1
section
variable {X : Cx} {tg iter : Expr} {body : List Stmt} {ti : DTI} {g : DTG} {u : DTSX} {pos : Pos}
theorem LkX.pinL {mg : Str → Option Value} {G : Gm} {F : List (V × D)} {Ex : DEx} {W : WX} (L : LkX mg G Ex W) : LkX mg (G.pinL F) Ex W :=
  fun M σ H σd μ cn f x cls d S r e => L M σ H σd μ cn f x cls d S.unpinL r e
theorem dsx_for (hi : DI X tg iter ti) (hg : DG X tg g) (hb : DSXs X body u)
    (po : PassesOwn (model X.prog X.w) X.A X.env X.xe := by first | exact PassesOwn.never | exact passes_of rfl)
    (hp : ∀ wi g' tb, PassesOwn (model X.prog X.w) X.A X.env X.xe → PI X tg iter wi → PG X tg g' → PSs X body tb → PS X (.For tg iter body [] pos) (tFor wi g' tb) := by exact fun _ _ _ po a b c => ps_for po rfl a b c) : DSX X (.For tg iter body [] pos) (dForX ti g u) := ⟨fun W tk => by
  obtain ⟨wi, p1, h1⟩ := hi.ex
  obtain ⟨g', p2, h2⟩ := hg.ex
  obtain ⟨tb, p3, h3⟩ := hb.ex W tk
  refine ⟨_, hp _ _ _ po p1 p2 p3, fun G M σ H σd μ De Ex E hK S q L LX => ?_⟩
  refine h1 G M σ H σd μ _ _ hK S q fun F J H1 items μ1 S1 ok q1 => ?_
  have mF : ∀ q ∈ F, q ∈ (G.pinL F).Fr := fun q hq => List.mem_append_left _ hq
  refine ⟨fun i m σ' H' => m = items.length - i ∧ i ≤ items.length ∧ ∃ M σd μ, SR (G.pinL F) M σ' H' σd μ ∧ dLoopX g u De Ex (items.drop i) σd μ,
    ⟨items.length, rfl, Nat.zero_le _, M, σd, μ1, S1, q1⟩, ?_⟩
  rintro i m σ2 H2 ⟨rfl, hi, M2, σd2, μ2, S2, q2⟩
  rcases Nat.lt_or_ge i items.length with hlt | hge
  · refine .inr ⟨ok.go (G.pinL F) M2 σ2 H2 σd2 μ2 i rfl rfl mF S2 hlt, fun σ' H' => ∃ M σd μ, SR (G.pinL F) M σ' H' σd μ ∧ dLoopX g u De Ex (items.drop (i + 1)) σd μ, ?_, ?_⟩
    · rintro σ3 H3 ⟨M3, σd3, μ3, S3, q3⟩
      exact ⟨items.length - (i + 1), by omega, rfl, hlt, M3, σd3, μ3, S3, q3⟩
    · intro x H3 y
      rw [List.drop_eq_getElem_cons hlt] at q2
      obtain ⟨S3, r3⟩ := ok.yld (G.pinL F) M2 σ2 H2 σd2 μ2 i x H3 items[i] rfl rfl mF S2 (List.getElem?_eq_getElem hlt) y
      refine h2 (G.pinL F) M2 σ2 H3 σd2 μ2 items[i] x _ _ hK S3 r3 q2 fun σ4 H4 σd4 μ4 S4 q4 => ?_
      exact h3 (G.pinL F) M2 σ4 H4 σd4 μ4 _ Ex _ hK S4 q4
        ⟨fun M5 σ5 H5 σd5 μ5 S5 q5 => ⟨M5, σd5, μ5, S5, q5⟩, L.pinL.rt, fun M5 σ5 H5 σd5 μ5 S5 q5 => L.pinL.nx _ _ _ _ _ S5 q5, fun M5 σ5 H5 σd5 μ5 S5 q5 => ⟨M5, σd5, μ5, S5, q5⟩⟩ LX.pinL
  · have e : i = items.length := by omega
    subst e
    rw [List.drop_length] at q2
    exact .inl ⟨ok.stop (G.pinL F) M2 σ2 H2 σd2 μ2 rfl rfl mF S2, L.pinL.nx _ _ _ _ _ S2 q2⟩⟩
end
section
variable {De : DEnds} {Ex : DEx} {ti : DTI} {g : DTG} {u : DTSX} {σ : DSt} {μ : Mem}
theorem e_forX (h : ti σ μ fun items μ1 => dLoopX g u De Ex items σ μ1) : dForX ti g u De Ex σ μ := h
/-- a loop's invariant, where the body may raise -/
theorem loopX_inv (Iv : Nat → DSt → Mem → Prop) : ∀ (items : List D) (k : Nat) (σ : DSt) (μ : Mem), Iv k σ μ →
    (∀ i x σ μ (K : DSt → Mem → Prop), items[i]? = some x → Iv (k + i) σ μ → (∀ σ' μ', Iv (k + i + 1) σ' μ' → K σ' μ') → g x σ μ fun σ2 μ2 => u { nx := K, rt := De.rt, bk := De.nx, ct := K } Ex σ2 μ2) →
    (∀ σ μ, Iv (k + items.length) σ μ → De.nx σ μ) → dLoopX g u De Ex items σ μ
  | [], k, σ, μ, h0, hs, hd => hd σ μ h0
  | x :: r, k, σ, μ, h0, hs, hd => by
    refine hs 0 x σ μ (dLoopX g u De Ex r) rfl h0 fun σ' μ' h => ?_
    refine loopX_inv Iv r (k + 1) σ' μ' h (fun i y σ μ K e q hk => ?_) (fun σ μ h => ?_)
    · refine hs (i + 1) y σ μ K e (by rw [show k + (i + 1) = k + 1 + i by omega]; exact q) fun σ' μ' h => hk σ' μ' ?_
      rw [show k + 1 + i + 1 = k + (i + 1) + 1 by omega]; exact h
    · refine hd σ μ ?_
      rw [List.length_cons, show k + (r.length + 1) = k + 1 + r.length by omega]; exact h
end
end DL

set_option maxRecDepth 100000
namespace DL
open PySem PySem.Spec PyProof.Rows L2
/-! ### a def that may raise, where it does not -/
def nx (F : DSpX) : DSp := fun ds μ Gd => F ds μ Gd fun _ _ _ _ => False
theorem Has.ofX {P : Program} {w : World} {K : PySem.W.Frag} {mg : Str → Option Value} {base : Heap} {k : Nat} {x : Str} {ps : List Str} {F : DSpX} (h : HasX P w K mg base k x ps F) : Has P w K mg base k x ps (nx F) := by
  obtain ⟨f, fd, h1, h2, h3, h4, Fn⟩ := h
  have sp : ∀ vs H Q E, spD K (nx F) vs H Q E → spX K mg F vs H Q (fun _ _ _ => False) := by
    rintro vs H Q E ⟨bx, M, ds, μ, Gd, S, r, q, fin⟩
    exact ⟨bx, M, ds, μ, Gd, _, S, r, q, fin, fun _ _ _ _ _ _ _ _ _ z => z⟩
  refine ⟨f, fd, h1, h2, h3, h4, ⟨fun vs H Q E q => Fn.cnt vs H Q _ (sp _ _ _ _ q), fun A out s H as us vs Q E hg hr he hb hv hs => ?_⟩⟩
  refine codeAny_mono (Fn.does A out s H as us vs Q _ hg hr he hb hv (sp _ _ _ _ hs)) fun r s' c => ?_
  cases r with
  | ok a => cases a <;> exact c
  | error e => obtain ⟨_, _, _, _, _, _, _, _, _, _, _, _, z⟩ := c; exact z.elim
section
variable {X : Cx} {a b : Expr} {pos : Pos} {ta : DTEX} {tb : DTE}
/-- a op b, where a may raise -/
def dOpX (rd : DR2) (ta : DTEX) (tb : DTE) : DTEX := fun Ex σd μ Q => ta Ex σd μ fun x μ1 => tb σd μ1 fun y μ2 => rd x y μ2 Q
theorem dex_op {op : Operator} {rd : DR2} (ho : OD X (binaryOp op) rd) (ha : DEX X a ta) (hb : DE X b tb) : DEX X (.BinOp a op b pos) (dOpX rd ta tb) := ⟨fun W tk => by
  obtain ⟨r, ho, hr⟩ := ho.ex
  obtain ⟨te, pa, ha⟩ := ha.ex W tk
  obtain ⟨te', pb, hb⟩ := hb.ex
  refine ⟨_, pe_op ho pa pb, fun G M σ H σd μ Q Ex R hK S hq LX k => ?_⟩
  refine ha G M σ H σd μ _ Ex _ hK S hq LX fun v H1 d μ1 S1 r1 q1 => ?_
  refine hb (G.pin v d) M σ H1 σd μ1 _ _ hK (S1.pin r1) q1 fun v2 H2 d2 μ2 S2 r2 q2 => ?_
  obtain ⟨S2', r1'⟩ := S2.unpin
  exact hr G M σ H2 σd μ2 _ _ _ _ _ _ hK S2' r1' r2 q2 k⟩
theorem e_opX {rd : DR2} {Ex : DEx} {σ : DSt} {μ : Mem} {Q : D → Mem → Prop} (h : ta Ex σ μ fun x μ1 => tb σ μ1 fun y μ2 => rd x y μ2 Q) : dOpX rd ta tb Ex σ μ Q := h
end
end DL

set_option maxRecDepth 100000
set_option maxHeartbeats 4000000
set_option exponentiation.threshold 50000
namespace Law
open PySem PySem.Spec L2 DL
local macro_rules | `(tactic| walk_at "dr") => `(tactic| first | rfl | assumption | omega | (rw [sizeLine_eq]; simp only [List.length_cons, List.length_nil, List.length_map, List.length_append, List.length_set]; (try omega); done))
local macro_rules | `(tactic| walk_at "d1") => `(tactic| first
  | ((with_reducible refine' e_seq ?_))
  | ((with_reducible refine' e_seqX ?_))
  | ((with_reducible refine' e_pureX ?_))
  | ((with_reducible refine' e_ifX ?_))
  | ((with_reducible refine' e_raiseX ?_))
  | ((with_reducible refine' e_asgE ?_))
  | ((with_reducible refine' e_retE ?_))
  | ((with_reducible refine' e_dropE ?_))
  | ((with_reducible refine' e_callX ?_))
  | ((with_reducible refine' e_dE ?_))
  | ((with_reducible refine' e_dAE ?_))
  | ((with_reducible refine' e_consX ?_))
  | ((with_reducible refine' e_lstX ?_))
  | ((with_reducible refine' e_tupX ?_))
  | ((with_reducible refine' e_one1 ?_))
  | ((with_reducible refine' e_tryT ?_))
  | ((with_reducible refine' e_isX ?_))
  | ((with_reducible refine' e_isX1 ?h1 ?_); (case h1 => (rfl)))
  | ((with_reducible refine' e_parOwn3 ?_))
  | ((with_reducible refine' e_parOwnF ?_))
  | ((with_reducible refine' e_zipT ?_))
  | ((with_reducible refine' e_zipT1 ?_))
  | ((with_reducible refine' e_star ?_))
  | ((with_reducible refine' e_star1 ?h1 ?_); (case h1 => (rfl)))
  | ((with_reducible refine' e_callS ?_))
  | ((with_reducible refine' e_asg2 ?_))
  | ((with_reducible refine' e_xf ?_))
  | ((with_reducible refine' e_xf1 ?_))
  | ((with_reducible refine' e_parOwn2 ?_))
  | ((with_reducible refine' e_ixT ?_))
  | ((with_reducible refine' e_ixT1 ?_))
  | ((with_reducible refine' e_sortSet ?_))
  | ((with_reducible refine' e_ixOwn ?h1 ?_); (case h1 => (rfl)))
  | ((with_reducible refine' e_slS ?_))
  | ((with_reducible refine' e_findT ?_))
  | ((with_reducible refine' e_indexT ?_))
  | ((with_reducible refine' e_joinT ?_))
  | ((with_reducible refine' e_itS ?_))
  | ((with_reducible refine' e_strx ?_))
  | ((with_reducible refine' e_intj ?_))
  | ((with_reducible refine' e_aug ?h1 ?_); (case h1 => (rfl)))
  | ((with_reducible refine' e_asg ?_))
  | ((with_reducible refine' e_gname ?_))
  | ((with_reducible refine' e_c ?_))
  | ((with_reducible refine' e_var ?h1 ?h2 ?_); (case h1 => (rfl)); (case h2 => (rfl)))
  | ((with_reducible refine' e_op ?_))
  | ((with_reducible refine' e_un ?_))
  | ((with_reducible refine' e_neg ?_))
  | ((with_reducible refine' e_nil ?_))
  | ((with_reducible refine' e_cons ?_))
  | ((with_reducible refine' e_tup ?_))
  | ((with_reducible refine' e_lst ?_))
  | ((with_reducible refine' e_cb ?_))
  | ((with_reducible refine' e_call ?_))
  | ((with_reducible refine' e_ret ?_))
  | ((with_reducible refine' e_retN ?_))
  | ((with_reducible refine' e_drop ?_))
  | ((with_reducible refine' e_next ?_))
  | ((with_reducible refine' e_break ?_))
  | ((with_reducible refine' e_cont ?_))
  | ((with_reducible refine' e_ifS ?_))
  | ((with_reducible refine' e_test ?_))
  | ((with_reducible refine' e_bl ?_))
  | ((with_reducible refine' e_notT ?_))
  | ((with_reducible refine' e_andT ?_))
  | ((with_reducible refine' e_orT ?_))
  | ((with_reducible refine' e_andV ?_))
  | ((with_reducible refine' e_orV ?_))
  | ((with_reducible refine' e_notV ?_))
  | ((with_reducible refine' e_chain ?_))
  | ((with_reducible refine' e_ifE ?_))
  | ((with_reducible refine' e_par ?_))
  | ((with_reducible refine' e_par2 ?_))
  | ((with_reducible refine' e_par3 ?_))
  | ((with_reducible refine' e_par33 ?_))
  | ((with_reducible refine' e_gseqT ?h1 ?_); (case h1 => (rfl)))
  | ((with_reducible refine' e_gseqL ?h1 ?_); (case h1 => (rfl)))
  | ((with_reducible refine' e_gcons ?_))
  | ((with_reducible refine' e_gnil ?_))
  | ((with_reducible refine' e_addI ?_))
  | ((with_reducible refine' e_addL ?h1 ?h2 ?h3 ?_); (case h1 => (rfl)); (case h2 => (rfl)); (case h3 => (walk_at "dr")))
  | ((with_reducible refine' e_addT ?h3 ?_); (case h3 => (walk_at "dr")))
  | ((with_reducible refine' e_sub ?_))
  | ((with_reducible refine' e_lt ?_))
  | ((with_reducible refine' e_le ?_))
  | ((with_reducible refine' e_gt ?_))
  | ((with_reducible refine' e_ge ?_))
  | ((with_reducible refine' e_eqI ?_))
  | ((with_reducible refine' e_neI ?_))
  | ((with_reducible refine' e_eqS ?_))
  | ((with_reducible refine' e_neS ?_))
  | ((with_reducible refine' e_isN ?_))
  | ((with_reducible refine' e_notN ?_))
  | ((with_reducible refine' e_mod ?h1 ?_); (case h1 => (walk_at "dr")))
  | ((with_reducible refine' e_pow ?h1 ?_); (case h1 => (exact ⟨by decide, by decide, by decide⟩)))
  | ((with_reducible refine' e_mulL ?h1 ?h2 ?_); (case h1 => (rfl)); (case h2 => (exact ⟨by decide, by decide, by walk_at "dr"⟩)))
  | ((with_reducible refine' e_ix ?h1 ?h2 ?_); (case h1 => (rfl)); (case h2 => (rfl)))
  | ((with_reducible refine' e_slT ?_))
  | ((with_reducible refine' e_part ?_))
  | ((with_reducible refine' e_part1 ?_))
  | ((with_reducible refine' e_nopart ?_))
  | ((with_reducible refine' e_cutL ?h1 ?_); (case h1 => (rfl)))
  | ((with_reducible refine' e_cutT ?_))
  | ((with_reducible refine' e_revL ?_))
  | ((with_reducible refine' e_rev2 ?_))
  | ((with_reducible refine' e_parOwn ?_))
  | ((with_reducible refine' e_abs ?_))
  | ((with_reducible refine' e_max2 ?_))
  | ((with_reducible refine' e_min2 ?_))
  | ((with_reducible refine' e_int1 ?_))
  | ((with_reducible refine' e_intB ?_))
  | ((with_reducible refine' e_bits ?_))
  | ((with_reducible refine' e_bits1 ?_))
  | ((with_reducible refine' e_len ?h1 ?_); (case h1 => (rfl)))
  | ((with_reducible refine' e_isi (r := true) ?h1 ?h2 ?_); (case h1 => (rfl)); (case h2 => (decide +kernel)))
  | ((with_reducible refine' e_isi (r := false) ?h1 ?h2 ?_); (case h1 => (rfl)); (case h2 => (decide +kernel)))
  | ((with_reducible refine' e_listOf ?h1 ?_); (case h1 => (rfl)))
  | ((with_reducible refine' e_tupleOf ?h1 ?_); (case h1 => (rfl)))
  | ((with_reducible refine' e_gbox ?_))
  | ((with_reducible refine' e_rstrip ?_))
  | ((with_reducible refine' e_ownCall ?_))
  | ((with_reducible refine' e_tupOwn ?h1 ?_); (case h1 => (rfl)))
  | ((with_reducible refine' e_repT ?h1 ?_); (case h1 => (exact ⟨by simp, by decide, by decide, by decide⟩)))
  | ((with_reducible refine' e_gOwn ?h1 ?_); (case h1 => (rfl)))
  | ((with_reducible refine' e_for ?_))
  | ((with_reducible refine' e_itLs ?_))
  | ((with_reducible refine' e_itTs ?_))
  | ((with_reducible refine' e_itL ?_))
  | ((with_reducible refine' e_itT ?_))
  | ((with_reducible refine' e_rng1 ?_))
  | ((with_reducible refine' e_rng2 ?_))
  | ((with_reducible refine' e_rng1b ?h1 ?_); (case h1 => (exact ⟨by omega, by omega⟩)))
  | ((with_reducible refine' e_rng2b ?h1 ?_); (case h1 => (exact ⟨by omega, by omega, by omega, by omega⟩)))
  | ((with_reducible refine' e_rngW ?_))
  | ((with_reducible refine' e_rngC ?_))
  | ((with_reducible refine' e_rngN ?_))
  | ((with_reducible refine' e_own4 ?_))
  | ((with_reducible refine' e_own4b ?_))
  | ((with_reducible refine' e_rngWb ?_))
  | ((with_reducible refine' e_lc ?_))
  | ((with_reducible refine' e_lc2 ?_))
  | ((with_reducible refine' e_index ?_))
  | ((with_reducible refine' e_callD ?_))
  | ((with_reducible refine' e_callK ?_))
  | ((with_reducible refine' e_own ?_))
  | ((with_reducible refine' e_ownLc ?h1 ?_); (case h1 => ((simp (config := {decide := true}) only [List.length_cons, List.length_nil, List.length_set]))))
  | ((with_reducible refine' e_yes ?_))
  | ((with_reducible refine' e_gcd ?_))
  | ((with_reducible refine' e_dmB ?h1 ?_); (case h1 => (assumption)))
  | ((with_reducible refine' e_dct ?_))
  | ((with_reducible refine' e_revT ?_))
  | ((with_reducible refine' e_tup1 ?_))
  | ((with_reducible refine' e_frzA1 ?h1 ?_); (case h1 => (rfl)))
  | ((with_reducible refine' e_frzA2 ?h1 ?_); (case h1 => (rfl)))
  | ((with_reducible refine' e_isB ?_))
  | ((with_reducible refine' e_notB ?_))
  | ((with_reducible refine' e_in ?h1 ?h2 ?h3 ?_); (case h1 => (rfl)); (case h2 => (rfl)); (case h3 => (rfl)))
  | ((with_reducible refine' e_notIn ?h1 ?h2 ?h3 ?_); (case h1 => (rfl)); (case h2 => (rfl)); (case h3 => (rfl)))
  | ((with_reducible refine' e_revRg ?_))
  | ((with_reducible refine' e_revRg1 ?h1 ?_); (case h1 => (exact ⟨by omega, by omega⟩)))
  | ((with_reducible refine' e_ownAdd ?_))
  | ((with_reducible refine' e_ownAdd2 ?h1 ?h2 ?h3 ?_); (case h1 => (rfl)); (case h2 => (rfl)); (case h3 => (walk_at "dr")))
  | ((with_reducible refine' e_ext ?h1 ?_); (case h1 => (rfl)))
  | ((with_reducible refine' e_lstRg ?_))
  | ((with_reducible refine' e_lstRg2 ?h1 ?_); (case h1 => (exact ⟨by decide, by decide, by decide, by decide⟩)))
  | ((with_reducible refine' e_zip ?_))
  | ((with_reducible refine' e_zip1 ?_))
  | ((with_reducible refine' e_app ?h1 ?_); (case h1 => (rfl)))
  | ((with_reducible refine' e_frz ?h1 ?_); (case h1 => (rfl)))
  | ((with_reducible refine' e_and (p := _ ≤ sizeLine) ?h1 ?_); (case h1 => (walk_at "dr")))
  | ((with_reducible refine' e_and (p := _ < sizeLine) ?h1 ?_); (case h1 => (walk_at "dr")))
  | ((with_reducible refine' e_ifT ?h1 ?_); (case h1 => (first | rfl | exact decide_eq_true (by omega) | exact congrArg not (decide_eq_false (by omega)))))
  | ((with_reducible refine' e_ifF ?h1 ?_); (case h1 => (first | rfl | exact decide_eq_false (by omega) | exact congrArg not (decide_eq_true (by omega))))))
local macro_rules | `(tactic| walk_at "d") => `(tactic| repeat walk_at "d1")
/-! ### the deck -/
-- _law_deck: slots 0=_law_script 1=_law_cell; level 1; calls 
def t_L_deck : DTS :=
  dRet (dLst (dCons (dLc (dItL (dSl (dVar 0) (dNoPart) (dPart (dC (.int 63))))) (dgName 1) (dYes) (dCB dAbs (dCons (dVar 1) (dNil))) [1]) (dCons (dC (.int 0)) (dNil))))
theorem cnt_L_deck : ∀ ds μ Gd, F_L_deck ds μ Gd → ds.length = 1 := by
  rintro ds μ Gd ⟨ns, rfl, _⟩; rfl
theorem ok_L_deck : ∀ ds μ Gd, F_L_deck ds μ Gd → t_L_deck { nx := fun _ μ' => Gd .non μ', rt := Gd } (startD 2 ds) μ := by
  rintro ds μ Gd ⟨ns, rfl, hl, rfl, q⟩
  show t_L_deck _ [some (scr ns), none] _
  unfold t_L_deck
  walk_at "d"
  have e : cutD (ns.map D.int) none (some 63) = ns.map D.int := by
    unfold cutD
    rw [HT.sIx_none, show HT.sIx (ns.map D.int).length (ns.map D.int).length (some 63) = min 63 (ns.map D.int).length from HT.sIx_nat _ _ 63, List.drop_zero, Nat.sub_zero, List.take_of_length_le]
    rw [List.length_map]; omega
  rw [e]
  refine lc_map (fun d => match d with | .int i => .int (iabs i) | d => d) (by rw [List.length_map, sizeLine_eq]; omega) (fun x K hx hK => ?_) ?_
  · obtain ⟨i, hi, rfl⟩ := List.mem_map.mp hx
    walk_at "d"
    exact hK
  · walk_at "d"
    rw [List.map_map]
    rw [List.map_map] at q
    exact q
def DK (N : Int) (μ : Mem) : Prop := ∃ (cs : List Int) (n : Int), μ = [[.box 1, .int n], cs.map D.int] ∧ cs.length ≤ 63 ∧ 0 ≤ n ∧ n ≤ N ∧ ∀ c ∈ cs, 0 ≤ c
theorem DK.mono {N M : Int} {μ : Mem} (h : DK N μ) (hl : N ≤ M) : DK M μ := by
  obtain ⟨cs, n, e, h1, h2, h3, h4⟩ := h
  exact ⟨cs, n, e, h1, h2, by omega, h4⟩
theorem dk_new (ns : List Int) (hl : ns.length ≤ 63) : DK 0 [[.box 1, .int 0], (ns.map iabs).map D.int] := by
  refine ⟨ns.map iabs, 0, rfl, by rw [List.length_map]; exact hl, by omega, by omega, fun c hc => ?_⟩
  obtain ⟨i, _, rfl⟩ := List.mem_map.mp hc
  unfold iabs
  split <;> omega
theorem atI_mem {l : List D} {r : Int} (h0 : 0 ≤ r) (h1 : r < l.length) : ∃ d, atI l r = some d ∧ d ∈ l := by
  obtain ⟨k, rfl⟩ : ∃ k : Nat, r = k := ⟨r.toNat, by omega⟩
  have hk : k < l.length := by omega
  exact ⟨l[k], atI_nat (List.getElem?_eq_getElem hk), List.getElem_mem _⟩
-- _law_draw: slots 0=_law_deck_here 1=_law_many 2=_law_place 3=_law_cell 4=_law_mixed; level 1; calls 
def t_L_draw : DTS :=
  dSeq (dAsg (dOp dAdd (dOp dIx (dVar 0) (dC (.int 1))) (dC (.int 1))) (dgBox (dVar 0) (dC (.int 1)))) (dSeq (dAsg (dOp dMod (dCB dInt1 (dCons (dOp dIx (dVar 0) (dC (.int 1))) (dNil))) (dCB dMax2 (dCons (dC (.int 1)) (dCons (dCB dLen (dCons (dOp dIx (dVar 0) (dC (.int 0))) (dNil))) (dNil))))) (dgName 2)) (dSeq (dAsg (dOp dIx (dOp dAdd (dOp dIx (dVar 0) (dC (.int 0))) (dLst (dCons (dC (.int 0)) (dNil)))) (dVar 2)) (dgName 3)) (dSeq (dIfS (dTest (dOp dGe (dVar 3) (dOp dPow (dC (.int 10)) (dC (.int 18))))) (dSeq (dAsg (dOp dFdiv (dVar 3) (dVar 1)) (dgBox (dOp dIx (dVar 0) (dC (.int 0))) (dVar 2))) (dRet (dOp dMod (dCB dInt1 (dCons (dVar 3) (dNil))) (dVar 1)))) (dNext)) (dSeq (dAsg (dOp dPow (dOp dAdd (dOp dAdd (dOp dMod (dCB dInt1 (dCons (dVar 3) (dNil))) (dC (.int 2147483587))) (dOp dMul (dC (.int 7919)) (dOp dIx (dVar 0) (dC (.int 1))))) (dC (.int 1))) (dC (.int 5))) (dgName 4)) (dRet (dOp dMod (dCB dInt1 (dCons (dOp dMod (dCB dInt1 (dCons (dVar 4) (dNil))) (dC (.int 2147483647))) (dNil))) (dVar 1)))))))
def F_L_draw : DSp := fun ds μ Gd => ∃ many N : Int, ds = [.box 0, .int many] ∧ 0 < many ∧ many < 1073741824 ∧ DK N μ ∧ N < 1000000000000 ∧ ∀ r μ', 0 ≤ r → r < many → DK (N + 1) μ' → Gd (.int r) μ'
theorem cnt_L_draw : ∀ ds μ Gd, F_L_draw ds μ Gd → ds.length = 2 := by
  rintro ds μ Gd ⟨m, N, rfl, _⟩; rfl
theorem atI_app {cs : List Int} {p : Int} (h0 : 0 ≤ p) (h1 : p < cs.length + 1) : ∃ c : Int, atI (cs.map D.int ++ [D.int 0]) p = some (.int c) ∧ ((p < cs.length ∧ c ∈ cs) ∨ c = 0) := by
  obtain ⟨k, rfl⟩ : ∃ k : Nat, p = k := ⟨p.toNat, by omega⟩
  by_cases hk : k < cs.length
  · refine ⟨cs[k], atI_nat ?_, .inl ⟨by omega, List.getElem_mem _⟩⟩
    rw [List.getElem?_append_left (by simpa using hk), List.getElem?_map, List.getElem?_eq_getElem hk]; rfl
  · have : k = cs.length := by omega
    subst this
    refine ⟨0, atI_nat ?_, .inr rfl⟩
    rw [List.getElem?_append_right (by simp)]
    simp
theorem ok_L_draw : ∀ ds μ Gd, F_L_draw ds μ Gd → t_L_draw { nx := fun _ μ' => Gd .non μ', rt := Gd } (startD 5 ds) μ := by
  rintro ds μ Gd ⟨many, N, rfl, hm0, hm1, ⟨cs, n, rfl, hl, hn0, hn1, hc⟩, hN, q⟩
  show t_L_draw _ [some (.box 0), some (.int many), none, none, none] _
  unfold t_L_draw
  walk_at "d"
  refine ⟨0, _, 1, 1, rfl, rfl, rfl, rfl, ?_⟩
  walk_at "d"
  have hp : (0 : Int) < (if ((List.map D.int cs).length : Int) > 1 then ((List.map D.int cs).length : Int) else 1) := by split <;> omega
  have hq : (n + 1) % (if ((List.map D.int cs).length : Int) > 1 then ((List.map D.int cs).length : Int) else 1) < cs.length + 1 := by
    have := Int.emod_lt_of_pos (n + 1) hp
    have e : (List.map D.int cs).length = cs.length := List.length_map _
    rw [e] at this ⊢
    split at this <;> split <;> omega
  obtain ⟨c, e1, hcc⟩ := atI_app (cs := cs) (Int.emod_nonneg _ (by omega)) hq
  refine e_ix rfl e1 ?_
  walk_at "d"
  have hc0 : 0 ≤ c := hcc.elim (fun z => hc c z.2) (fun z => by omega)
  refine e_if (fun h => ?_) (fun h => ?_)
  · -- a large cell
    walk_at "d"
    refine e_fdiv ⟨hm0, ?_⟩ ?_
    · have : many.natAbs < 2 ^ 30 := by omega
      exact Nat.lt_of_lt_of_le (Nat.log2_lt (by omega) |>.mpr (Nat.lt_of_lt_of_le this (Nat.pow_le_pow_right (by decide) (by decide : 30 ≤ 9000)))) (Nat.le_refl _)
    walk_at "d"
    have hk : (n + 1) % (if ((List.map D.int cs).length : Int) > 1 then ((List.map D.int cs).length : Int) else 1) < cs.length ∧ c ∈ cs := by
      rcases hcc with z | z
      · exact z
      · subst z
        exact absurd h (by decide)
    generalize hP : (n + 1) % (if ((List.map D.int cs).length : Int) > 1 then ((List.map D.int cs).length : Int) else 1) = P at *
    have hP0 : 0 ≤ P := by rw [← hP]; exact Int.emod_nonneg _ (by omega)
    have e : (List.map D.int cs).length = cs.length := List.length_map _
    refine ⟨1, _, P, P.toNat, rfl, rfl, rfl, ?_, ?_⟩
    · unfold ixN
      rw [if_pos hP0, e, if_pos hk.1]
    walk_at "d"
    refine q _ _ (Int.emod_nonneg _ (by omega)) (Int.emod_lt_of_pos _ hm0) ⟨cs.set P.toNat (c / many), n + 1, ?_, by rw [List.length_set]; exact hl, by omega, by omega, fun z hz => ?_⟩
    · show [[D.box 1, D.int (n + 1)], (cs.map D.int).set P.toNat (D.int (c / many))] = _
      rw [List.map_set]
    · rcases List.mem_or_eq_of_mem_set hz with z | rfl
      · exact hc _ z
      · exact Int.ediv_nonneg hc0 (by omega)
  · walk_at "d"
    have h1 := Int.emod_nonneg c (show (2147483587 : Int) ≠ 0 by decide)
    have h2 := Int.emod_lt_of_pos c (show (0 : Int) < 2147483587 by decide)
    refine e_mulI (mulx_ok (a := 13) (b := 41) (by decide) (by omega) (by decide)) ?_
    walk_at "d"
    refine e_pow ⟨by decide, by decide, by omega⟩ ?_
    walk_at "d"
    exact q _ _ (Int.emod_nonneg _ (by omega)) (Int.emod_lt_of_pos _ hm0) ⟨cs, n + 1, rfl, hl, by omega, by omega, hc⟩
theorem two_pow_s (k : Nat) : (2 : Nat) ^ (k + 1) = 2 ^ k + 2 ^ k := by rw [Nat.pow_succ]; omega
theorem mem2 {x a b : D} (h : x ∈ [a, b]) : x = a ∨ x = b := by simpa using h
theorem mem3 {x a b c : D} (h : x ∈ [a, b, c]) : x = a ∨ x = b ∨ x = c := by simpa using h
theorem mem6 {x a b c d e f : D} (h : x ∈ [a, b, c, d, e, f]) : x = a ∨ x = b ∨ x = c ∨ x = d ∨ x = e ∨ x = f := by simpa using h
abbrev Bd (k : Nat) (i : Int) : Prop := i.natAbs < 2 ^ k
theorem bd_up {i : Int} {k l : Nat} (h : Bd k i) (hk : k ≤ l) : Bd l i := Nat.lt_of_lt_of_le h (Nat.pow_le_pow_right (by decide) hk)
theorem bd_mul {x y : Int} {i j : Nat} (h : Bd i x) (h' : Bd j y) : Bd (i + j) (x * y) := wide_lt h h'
theorem bd_add {x y : Int} {k : Nat} (h : Bd k x) (h' : Bd k y) : Bd (k + 1) (x + y) := by
  have e := two_pow_s k
  have h : x.natAbs < 2 ^ k := h
  have h' : y.natAbs < 2 ^ k := h'
  show (x + y).natAbs < 2 ^ (k + 1)
  omega
theorem bd_neg {x : Int} {k : Nat} (h : Bd k x) : Bd k (-x) := by
  show (-x).natAbs < 2 ^ k
  rw [Int.natAbs_neg]; exact h
theorem bd_sub {x y : Int} {k : Nat} (h : Bd k x) (h' : Bd k y) : Bd (k + 1) (x - y) := by rw [Int.sub_eq_add_neg]; exact bd_add h (bd_neg h')
theorem bd_div {x c : Int} {k : Nat} (h : Bd k x) : Bd k (x / c) := Nat.lt_of_le_of_lt (Int.natAbs_ediv_le_natAbs x c) h
theorem bd_mod {x c : Int} {k : Nat} (c0 : 0 < c) (h : Bd k c) : Bd k (x % c) := by
  have h1 := Int.emod_nonneg x (show c ≠ 0 by omega)
  have h2 := Int.emod_lt_of_pos x c0
  have h : c.natAbs < 2 ^ k := h
  show (x % c).natAbs < 2 ^ k
  omega
theorem bd_le {x y : Int} {k : Nat} (h0 : 0 ≤ x) (h1 : x ≤ y) (h : Bd k y) : Bd k x := by
  have h : y.natAbs < 2 ^ k := h
  show x.natAbs < 2 ^ k
  omega
theorem bd_small {x : Int} (k : Nat) (h : x.natAbs < 2 ^ k) : Bd k x := h
theorem mul_ok {x y : Int} {i j : Nat} (h : Bd i x) (h' : Bd j y) (hk : i + j ≤ 134217728 := by omega) : CMulX x y := mulx_ok h h' hk
theorem div_ok {x c : Int} {k : Nat} (c0 : 0 < c) (h : Bd k c) (h0 : 0 < k := by omega) (hk : k ≤ 9000 := by omega) : CDivW x c := wide_div c0 h h0 hk
theorem pow_le2 {a b : Nat} (h : a ≤ b) : (2 : Int) ^ a ≤ 2 ^ b := by
  have := Nat.pow_le_pow_right (show 2 > 0 by decide) h
  have e : ∀ k : Nat, ((2 ^ k : Nat) : Int) = 2 ^ k := fun k => by rw [Int.natCast_pow]; rfl
  rw [← e, ← e]; omega
theorem two_lt {a b : Nat} (h : (2 : Int) ^ a < 2 ^ b) : a < b := by
  refine Nat.not_le.mp fun z => ?_
  have := Nat.pow_le_pow_right (show 2 > 0 by decide) z
  have e : ∀ k : Nat, ((2 ^ k : Nat) : Int) = 2 ^ k := fun k => by rw [Int.natCast_pow]; rfl
  rw [← e, ← e] at h; omega
theorem two_up (x : Int) (t : Nat) : 2 * (x * 2 ^ t) = x * 2 ^ (t + 1) := by rw [Int.pow_succ, ← Int.mul_assoc x, Int.mul_comm 2]
theorem two_pos (a : Nat) : (0 : Int) < 2 ^ a := Int.pow_pos (by decide)
theorem of_bd {x : Int} {k : Nat} (h : Bd k x) : x < 2 ^ k := by
  have e : ((2 ^ k : Nat) : Int) = 2 ^ k := by rw [Int.natCast_pow]; rfl
  have h : x.natAbs < 2 ^ k := h
  omega
theorem to_bd {x : Int} {k : Nat} (h0 : 0 ≤ x) (h : x < 2 ^ k) : Bd k x := by
  have e : ((2 ^ k : Nat) : Int) = 2 ^ k := by rw [Int.natCast_pow]; rfl
  show x.natAbs < 2 ^ k
  omega
/-! ### powers of ten and of two -/
theorem pow10_bd (k : Nat) : Bd (4 * k + 1) ((10 : Int) ^ k) := by
  show ((10 : Int) ^ k).natAbs < 2 ^ (4 * k + 1)
  rw [Int.natAbs_pow]
  refine Nat.lt_of_le_of_lt (Nat.pow_le_pow_left (show (10 : Int).natAbs ≤ 2 ^ 4 by decide) k) ?_
  rw [← Nat.pow_mul]
  exact Nat.pow_lt_pow_right (by decide) (by omega)
theorem pow10_pos (k : Nat) : (0 : Int) < 10 ^ k := Int.pow_pos (by decide)
theorem bd_pow {k n : Nat} (h : k < n) : Bd n ((2 : Int) ^ k) := by
  show ((2 : Int) ^ k).natAbs < 2 ^ n
  rw [Int.natAbs_pow]
  exact Nat.pow_lt_pow_right (by decide) h
theorem e_shlN {i j : Int} {n : Nat} {μ : Mem} {Q : D → Mem → Prop} (k : Nat) (hj : j = k) (h : Bd n i) (hn : n + k ≤ 134217728) (q : Q (.int (i * 2 ^ k)) μ) : dShl (.int i) (.int j) μ Q := by
  subst hj
  exact e_shl (shl_ok h hn) q
theorem e_shrN {i j : Int} {μ : Mem} {Q : D → Mem → Prop} (k : Nat) (hj : j = k) (q : Q (.int (i / 2 ^ k)) μ) : dShr (.int i) (.int j) μ Q := by
  subst hj
  exact e_shr (Int.natCast_nonneg _) q
theorem e_andI {i j : Int} {μ : Mem} {Q : D → Mem → Prop} (h : Q (.int (Builtin.bitAnd i j)) μ) : dAnd (.int i) (.int j) μ Q := ⟨i, j, rfl, rfl, h⟩
/-! ### formats and codes -/
theorem pow_le {a b : Nat} (h : a ≤ b) : (2 : Int) ^ a ≤ 2 ^ b := by
  have := Nat.pow_le_pow_right (show 2 > 0 by decide) h
  have e : ∀ k : Nat, ((2 ^ k : Nat) : Int) = 2 ^ k := fun k => by rw [Int.natCast_pow]; rfl
  rw [← e, ← e]; omega
theorem pow_pos' (a : Nat) : (0 : Int) < 2 ^ a := by
  have : (2 : Nat) ^ a > 0 := Nat.pow_pos (by decide)
  have e : ((2 ^ a : Nat) : Int) = 2 ^ a := by rw [Int.natCast_pow]; rfl
  omega
theorem bits_up {M : Int} {k : Nat} (h0 : 0 ≤ M) (h : M < 2 ^ k) : Builtin.Int.intBits M ≤ k := PyProof.Rows.intBits_le (by
  have e : ((2 ^ k : Nat) : Int) = 2 ^ k := by rw [Int.natCast_pow]; rfl
  omega)
theorem bits_lo {M : Int} {k : Nat} (h : 2 ^ k ≤ M) : k < Builtin.Int.intBits M := by
  refine Nat.not_le.mp fun z => ?_
  have h1 := PyProof.Rows.natAbs_lt_pow_bits M
  have h2 : (2 : Nat) ^ Builtin.Int.intBits M ≤ 2 ^ k := Nat.pow_le_pow_right (by decide) z
  have e : ((2 ^ k : Nat) : Int) = 2 ^ k := by rw [Int.natCast_pow]; rfl
  have := pow_pos' k
  omega
def fxp (P : Nat) (lo m e : Int) : Int := if e + (Builtin.Int.intBits m : Nat) - (P + 1) > lo then e + (Builtin.Int.intBits m : Nat) - (P + 1) else lo
def optD : Option Int → D
  | none => .non
  | some i => .int i
def codeF (P : Nat) (lo hi m e : Int) : Option Int :=
  if m = 0 then some 0 else if fxp P lo m e > hi then none
  else if e ≥ fxp P lo m e then some ((fxp P lo m e - lo) * 2 ^ P + m * 2 ^ (e - fxp P lo m e).toNat)
  else if m / 2 ^ (fxp P lo m e - e).toNat * 2 ^ (fxp P lo m e - e).toNat ≠ m then none
  else some ((fxp P lo m e - lo) * 2 ^ P + m / 2 ^ (fxp P lo m e - e).toNat)
/-- m and e as a number of the format has them -/
def can (P : Nat) (lo hi M E : Int) : Prop := 0 ≤ M ∧ M < 2 ^ (P + 1) ∧ lo ≤ E ∧ E ≤ hi ∧ (2 ^ P ≤ M ∨ E = lo)
theorem fxp_eq {P : Nat} {lo hi M E : Int} {k : Nat} {x : Int} (c : can P lo hi M E) (x0 : 0 ≤ x) (x1 : x < 2 ^ k) : fxp P lo (M * 2 ^ k + x) (E - k) = E := by
  obtain ⟨m0, m1, l, h, c⟩ := c
  have up : Builtin.Int.intBits (M * 2 ^ k + x) ≤ P + 1 + k := by
    have p0 := Int.mul_nonneg m0 (Int.le_of_lt (pow_pos' k))
    refine bits_up (by omega) ?_
    have : (M + 1) * 2 ^ k ≤ 2 ^ (P + 1) * 2 ^ k := Int.mul_le_mul_of_nonneg_right (by omega) (Int.le_of_lt (pow_pos' k))
    rw [Int.add_mul, Int.one_mul, ← Int.pow_add] at this
    omega
  unfold fxp
  rcases c with c | c
  · have lw : P + k < Builtin.Int.intBits (M * 2 ^ k + x) := by
      refine bits_lo ?_
      have : (2 : Int) ^ P * 2 ^ k ≤ M * 2 ^ k := Int.mul_le_mul_of_nonneg_right c (Int.le_of_lt (pow_pos' k))
      rw [← Int.pow_add] at this
      omega
    split <;> omega
  · split <;> omega
theorem codeF_can {P : Nat} {lo hi M E : Int} (k : Nat) (c : can P lo hi M E) : codeF P lo hi (M * 2 ^ k) (E - k) = some (if M = 0 then 0 else (E - lo) * 2 ^ P + M) := by
  have hp := pow_pos' k
  unfold codeF
  by_cases z : M = 0
  · subst z; rw [Int.zero_mul, if_pos rfl, if_pos rfl]
  have hx := fxp_eq (k := k) (x := 0) c (Int.le_refl _) hp
  rw [Int.add_zero] at hx
  have nz : M * 2 ^ k ≠ 0 := Int.mul_ne_zero z (by omega)
  rw [if_neg nz, hx, if_neg z, if_neg (by have := c.2.2.2.1; omega)]
  by_cases k0 : k = 0
  · subst k0
    rw [if_pos (by show E - (0 : Nat) ≥ E; omega), show (E - ((0 : Nat) : Int) - E).toNat = 0 by omega, Int.pow_zero, Int.mul_one, Int.mul_one]
  · rw [if_neg (by omega), show (E - (E - (k : Int))).toNat = k by omega, Int.mul_ediv_cancel _ (by omega), if_neg (fun h => h rfl)]
theorem codeF_none {P : Nat} {lo hi M E x : Int} (k : Nat) (c : can P lo hi M E) (x0 : 0 < x) (x1 : x < 2 ^ k) : codeF P lo hi (M * 2 ^ k + x) (E - k) = none := by
  have hp := pow_pos' k
  have hx := fxp_eq (k := k) (x := x) c (by omega) x1
  have k0 : 0 < k := by
    rcases Nat.eq_zero_or_pos k with z | z
    · subst z
      have : (2 : Int) ^ 0 = 1 := rfl
      omega
    · exact z
  have m0 := Int.mul_nonneg c.1 (Int.le_of_lt hp)
  unfold codeF
  rw [if_neg (by omega), hx, if_neg (by have := c.2.2.2.1; omega), if_neg (by omega), show (E - (E - (k : Int))).toNat = k by omega]
  have hd : (M * 2 ^ k + x) / 2 ^ k = M := by
    rw [Int.add_comm, Int.add_mul_ediv_right _ _ (by omega), Int.ediv_eq_zero_of_lt (by omega) x1, Int.zero_add]
  rw [hd, if_pos (by omega)]
theorem codeF_up {P : Nat} {lo hi m E : Int} (k : Nat) (m0 : 0 < m) (c : can P lo hi (m * 2 ^ k) E) : codeF P lo hi m (E + k) = some ((E - lo) * 2 ^ P + m * 2 ^ k) := by
  have hp := pow_pos' k
  obtain ⟨c0, c1, l, h, c⟩ := c
  have hk : k < P + 1 := by
    refine Nat.not_le.mp fun z => ?_
    have h1 := pow_le z
    have h2 : 1 * 2 ^ k ≤ m * 2 ^ k := Int.mul_le_mul_of_nonneg_right (by omega) (Int.le_of_lt hp)
    omega
  have hx : fxp P lo m (E + k) = E := by
    have up : Builtin.Int.intBits m ≤ P + 1 - k := by
      refine bits_up (by omega) (Int.lt_of_mul_lt_mul_right (a := 2 ^ k) ?_ (Int.le_of_lt hp))
      rw [← Int.pow_add, show P + 1 - k + k = P + 1 by omega]
      exact c1
    unfold fxp
    rcases c with c | c
    · have lw : P - k < Builtin.Int.intBits m := by
        refine bits_lo (Int.le_of_mul_le_mul_right (a := 2 ^ k) ?_ hp)
        rw [← Int.pow_add, show P - k + k = P by omega]
        exact c
      split <;> omega
    · split <;> omega
  unfold codeF
  rw [if_neg (by omega), hx, if_neg (by omega), if_pos (by omega), show (E + (k : Int) - E).toNat = k by omega]
theorem codeF_far {P : Nat} {lo hi m : Int} (m0 : 0 < m) (hlh : lo ≤ hi) : codeF P lo hi m (hi + (P + 1)) = none := by
  have hb : 0 < Builtin.Int.intBits m := bits_lo (k := 0) (by show (1 : Int) ≤ m; omega)
  have hx : fxp P lo m (hi + (P + 1)) > hi := by unfold fxp; split <;> omega
  unfold codeF
  rw [if_neg (by omega), if_pos hx]
theorem codeF_top {P : Nat} {lo hi : Int} (hlh : lo ≤ hi) : codeF P lo hi (1 * 2 ^ (P + 1)) hi = none := by
  have hb : P + 1 < Builtin.Int.intBits (1 * 2 ^ (P + 1)) := bits_lo (by rw [Int.one_mul]; exact Int.le_refl _)
  have hx : fxp P lo (1 * 2 ^ (P + 1)) hi > hi := by unfold fxp; split <;> omega
  unfold codeF
  rw [if_neg (by have := pow_pos' (P + 1); omega), if_pos hx]
def countF (P : Nat) (lo hi : Int) : Int := (hi - lo + 2) * 2 ^ P
def partM (P : Nat) (code : Int) : Int := if code < 2 ^ (P + 1) then code else 2 ^ P + (code - 2 ^ (P + 1)) % 2 ^ P
def partE (P : Nat) (lo code : Int) : Int := if code < 2 ^ (P + 1) then lo else lo + 1 + (code - 2 ^ (P + 1)) / 2 ^ P
theorem pow_s (P : Nat) : (2 : Int) ^ (P + 1) = 2 * 2 ^ P := by rw [Int.pow_succ]; omega
theorem part_can {P : Nat} {lo hi code : Int} (hlh : lo ≤ hi) (h0 : 0 ≤ code) (h1 : code < countF P lo hi) : can P lo hi (partM P code) (partE P lo code) ∧ (partE P lo code - lo) * 2 ^ P + partM P code = code := by
  have hp := pow_pos' P
  have hs := pow_s P
  unfold partM partE can
  by_cases z : code < 2 ^ (P + 1)
  · rw [if_pos z, if_pos z]
    refine ⟨⟨h0, z, Int.le_refl _, hlh, .inr rfl⟩, ?_⟩
    rw [Int.sub_self, Int.zero_mul, Int.zero_add]
  · rw [if_neg z, if_neg z]
    have r0 := Int.emod_nonneg (code - 2 ^ (P + 1)) (show (2 : Int) ^ P ≠ 0 by omega)
    have r1 := Int.emod_lt_of_pos (code - 2 ^ (P + 1)) hp
    have d0 : 0 ≤ (code - 2 ^ (P + 1)) / 2 ^ P := Int.ediv_nonneg (by omega) (by omega)
    have d1 : (code - 2 ^ (P + 1)) / 2 ^ P < hi - lo := by
      refine Int.ediv_lt_of_lt_mul hp ?_
      have h1 : code < (hi - lo + 2) * 2 ^ P := h1
      rw [Int.add_mul] at h1
      omega
    have dm := Int.mul_ediv_add_emod (code - 2 ^ (P + 1)) (2 ^ P)
    refine ⟨⟨by omega, by omega, by omega, by omega, .inl (by omega)⟩, ?_⟩
    rw [show lo + 1 + (code - 2 ^ (P + 1)) / 2 ^ P - lo = 1 + (code - 2 ^ (P + 1)) / 2 ^ P by omega, Int.add_mul, Int.one_mul, Int.mul_comm _ ((2 : Int) ^ P)]
    omega
/-- the parts as the program finds them -/
theorem parts_prog {P : Nat} {lo code : Int} (h0 : 0 ≤ code) : code - (if 0 > code / 2 ^ P - 1 then 0 else code / 2 ^ P - 1) * 2 ^ P = partM P code ∧ lo + (if 0 > code / 2 ^ P - 1 then 0 else code / 2 ^ P - 1) = partE P lo code := by
  have hp := pow_pos' P
  have hs := pow_s P
  have dm := Int.mul_ediv_add_emod code (2 ^ P)
  have r0 := Int.emod_nonneg code (show (2 : Int) ^ P ≠ 0 by omega)
  have r1 := Int.emod_lt_of_pos code hp
  unfold partM partE
  by_cases z : code < 2 ^ (P + 1)
  · have q2 : code / 2 ^ P < 2 := Int.ediv_lt_of_lt_mul hp (by omega)
    have ab : (if 0 > code / 2 ^ P - 1 then 0 else code / 2 ^ P - 1) = 0 := by
      have := Int.ediv_nonneg h0 (Int.le_of_lt hp)
      split <;> omega
    rw [ab, if_pos z, if_pos z]
    exact ⟨by rw [Int.zero_mul]; omega, by omega⟩
  · have q2 : 2 ≤ code / 2 ^ P := (Int.le_ediv_iff_mul_le hp).mpr (by omega)
    have e2 : code - 2 ^ (P + 1) = code + 2 ^ P * (-2) := by omega
    rw [if_neg z, if_neg z, e2, Int.add_mul_emod_self_left, Int.add_mul_ediv_left _ _ (by omega), if_neg (by omega)]
    refine ⟨?_, by omega⟩
    rw [Int.sub_mul, Int.mul_comm (code / 2 ^ P)]
    omega
/-! ### the logarithm of a fraction, and cutting -/
def le2 (k num den : Int) : Prop := den * 2 ^ k.toNat ≤ num * 2 ^ (-k).toNat
instance (k num den : Int) : Decidable (le2 k num den) := inferInstanceAs (Decidable (_ ≤ _))
def logF (num den : Int) : Int :=
  if le2 ((Builtin.Int.intBits num : Nat) - (Builtin.Int.intBits den : Nat)) num den then (Builtin.Int.intBits num : Nat) - (Builtin.Int.intBits den : Nat) else (Builtin.Int.intBits num : Nat) - (Builtin.Int.intBits den : Nat) - 1
theorem pow_cancel {x y : Int} (a b c : Nat) : x * 2 ^ (a + c) ≤ y * 2 ^ (b + c) ↔ x * 2 ^ a ≤ y * 2 ^ b := by
  rw [Int.pow_add, Int.pow_add, ← Int.mul_assoc, ← Int.mul_assoc]
  exact ⟨fun h => Int.le_of_mul_le_mul_right h (two_pos c), fun h => Int.mul_le_mul_of_nonneg_right h (Int.le_of_lt (two_pos c))⟩
theorem le2_shift {k num den : Int} (t : Nat) (h : 0 ≤ k + t) : le2 k num den ↔ den * 2 ^ (k + t).toNat ≤ num * 2 ^ t := by
  unfold le2
  obtain ⟨c, hc⟩ : ∃ c : Nat, t = (-k).toNat + c := ⟨t - (-k).toNat, by omega⟩
  rw [show (k + t).toNat = k.toNat + c by omega, hc]
  exact (pow_cancel _ _ _).symm
theorem bits_le {x : Int} (h : 0 < x) : (2 : Int) ^ (Builtin.Int.intBits x - 1) ≤ x ∧ 0 < Builtin.Int.intBits x := by
  have e : ∀ k : Nat, ((2 ^ k : Nat) : Int) = 2 ^ k := fun k => by rw [Int.natCast_pow]; rfl
  have h0 : 0 < Builtin.Int.intBits x := Nat.pos_of_ne_zero fun z => by
    have := PyProof.Rows.natAbs_lt_pow_bits x
    rw [z, Nat.pow_zero] at this
    omega
  refine ⟨?_, h0⟩
  have : ¬ x.natAbs < 2 ^ (Builtin.Int.intBits x - 1) := fun w => by
    have := PyProof.Rows.intBits_le w
    omega
  rw [← e]; omega
theorem bits_gt (x : Int) : x < 2 ^ Builtin.Int.intBits x := by
  have e : ((2 ^ Builtin.Int.intBits x : Nat) : Int) = 2 ^ Builtin.Int.intBits x := by rw [Int.natCast_pow]; rfl
  have := PyProof.Rows.natAbs_lt_pow_bits x
  rw [← e]; omega
theorem logF_spec {num den : Int} (n0 : 0 < num) (d0 : 0 < den) : le2 (logF num den) num den ∧ ¬ le2 (logF num den + 1) num den := by
  obtain ⟨n1, nb⟩ := bits_le n0
  obtain ⟨d1, db⟩ := bits_le d0
  have n2 := bits_gt num
  have d2 := bits_gt den
  unfold logF
  generalize Builtin.Int.intBits num = bn at *
  generalize Builtin.Int.intBits den = bd at *
  have A : le2 ((bn : Int) - bd - 1) num den := by
    rw [le2_shift (bd + 1) (by omega), show ((bn : Int) - bd - 1 + ((bd + 1 : Nat) : Int)).toNat = bn by omega]
    have h1 : den * 2 ^ bn ≤ 2 ^ bd * 2 ^ bn := Int.mul_le_mul_of_nonneg_right (Int.le_of_lt d2) (Int.le_of_lt (two_pos bn))
    have h2 : (2 : Int) ^ (bn - 1) * 2 ^ (bd + 1) ≤ num * 2 ^ (bd + 1) := Int.mul_le_mul_of_nonneg_right n1 (Int.le_of_lt (two_pos _))
    rw [← Int.pow_add, show bn - 1 + (bd + 1) = bd + bn by omega, Int.pow_add] at h2
    omega
  have B : ¬ le2 ((bn : Int) - bd + 1) num den := by
    rw [le2_shift bd (by omega), show ((bn : Int) - bd + 1 + (bd : Int)).toNat = bn + 1 by omega]
    have h1 : num * 2 ^ bd < 2 ^ bn * 2 ^ bd := Int.mul_lt_mul_of_pos_right n2 (two_pos bd)
    have h2 : (2 : Int) ^ (bd - 1) * 2 ^ (bn + 1) ≤ den * 2 ^ (bn + 1) := Int.mul_le_mul_of_nonneg_right d1 (Int.le_of_lt (two_pos _))
    rw [← Int.pow_add, show bd - 1 + (bn + 1) = bn + bd by omega, Int.pow_add] at h2
    omega
  split
  · rename_i h; exact ⟨h, B⟩
  · rename_i h; exact ⟨A, by rw [show (bn : Int) - bd - 1 + 1 = bn - bd by omega]; exact h⟩
theorem logF_bd {num den : Int} {i j : Nat} (hn : Bd i num) (hd : Bd j den) : -(j : Int) - 1 ≤ logF num den ∧ logF num den ≤ i := by
  have h1 := PyProof.Rows.intBits_le hn
  have h2 := PyProof.Rows.intBits_le hd
  unfold logF
  split <;> omega
def F_log_of : DSp := fun ds μ Gd => ∃ num den : Int, ds = [.int num, .int den] ∧ Bd 100000 num ∧ Bd 100000 den ∧ Gd (.int (logF num den)) μ
-- log_of: slots 0=num 1=den 2=k 3=fits; level 1; calls 
def t_log_of : DTS :=
  dSeq (dAsg (dOp dSub (dBits (dVar 0)) (dBits (dVar 1))) (dgName 2)) (dSeq (dIfS (dTest (dOp dGe (dVar 2) (dC (.int 0)))) (dAsg (dOp dLe (dOp dShl (dVar 1) (dVar 2)) (dVar 0)) (dgName 3)) (dAsg (dOp dLe (dVar 1) (dOp dShl (dVar 0) (dUn dNeg (dVar 2)))) (dgName 3))) (dRet (dIf (dTest (dVar 3)) (dVar 2) (dOp dSub (dVar 2) (dC (.int 1))))))
theorem cnt_log_of : ∀ ds μ Gd, F_log_of ds μ Gd → ds.length = 2 := by
  rintro ds μ Gd ⟨a, b, rfl, _⟩; rfl
theorem ok_log_of : ∀ ds μ Gd, F_log_of ds μ Gd → t_log_of { nx := fun _ μ' => Gd .non μ', rt := Gd } (startD 4 ds) μ := by
  rintro ds μ Gd ⟨num, den, rfl, bn, bd, q⟩
  show t_log_of _ [some (.int num), some (.int den), none, none] _
  unfold t_log_of
  have h1 := PyProof.Rows.intBits_le bn
  have h2 := PyProof.Rows.intBits_le bd
  unfold logF at q
  walk_at "d"
  generalize Builtin.Int.intBits num = b at *
  generalize Builtin.Int.intBits den = c at *
  refine e_if (fun h => ?_) (fun h => ?_)
  · have hq : le2 ((b : Int) - c) num den ↔ den * 2 ^ ((b : Int) - c).toNat ≤ num := by
      unfold le2
      rw [show (-((b : Int) - c)).toNat = 0 by omega, Int.pow_zero, Int.mul_one]
    walk_at "d"
    refine e_shlN ((b : Int) - c).toNat (by omega) bd (by omega) ?_
    walk_at "d"
    refine e_if (fun h2 => ?_) (fun h2 => ?_)
    · rw [if_pos (hq.mpr h2)] at q
      walk_at "d"
      exact q
    · rw [if_neg (fun w => h2 (hq.mp w))] at q
      walk_at "d"
      exact q
  · have hq : le2 ((b : Int) - c) num den ↔ den ≤ num * 2 ^ (-((b : Int) - c)).toNat := by
      unfold le2
      rw [show ((b : Int) - c).toNat = 0 by omega, Int.pow_zero, Int.mul_one]
    walk_at "d"
    refine e_shlN (-((b : Int) - c)).toNat (by omega) bn (by omega) ?_
    walk_at "d"
    refine e_if (fun h2 => ?_) (fun h2 => ?_)
    · rw [if_pos (hq.mpr h2)] at q
      walk_at "d"
      exact q
    · rw [if_neg (fun w => h2 (hq.mp w))] at q
      walk_at "d"
      exact q
/-! ### positions -/
def expF (P : Nat) (lo hi num den : Int) : Int :=
  if num = 0 then lo else if (if logF num den - P < hi then logF num den - P else hi) > lo then (if logF num den - P < hi then logF num den - P else hi) else lo
theorem expF_in {P : Nat} {lo hi num den : Int} (h : lo ≤ hi) : lo ≤ expF P lo hi num den ∧ expF P lo hi num den ≤ hi := by
  unfold expF
  split
  · omega
  · split
    · split <;> omega
    · omega
/-- the exponent is above the least one: the fraction is not below 2 ** (e + P) -/
theorem expF_lo {P : Nat} {lo hi num den : Int} (n0 : 0 ≤ num) (d0 : 0 < den) (h : lo < expF P lo hi num den) : le2 (expF P lo hi num den + P) num den := by
  unfold expF at h ⊢
  by_cases z : num = 0
  · rw [if_pos z] at h; omega
  rw [if_neg z] at h ⊢
  obtain ⟨a, _⟩ := logF_spec (show 0 < num by omega) d0
  have mono : ∀ k : Int, k ≤ logF num den → le2 k num den := fun k hk => by
    obtain ⟨T, hT⟩ : ∃ T : Nat, 0 ≤ k + T := ⟨(-k).toNat, by omega⟩
    rw [le2_shift T hT]
    rw [le2_shift T (by omega)] at a
    exact Int.le_trans (Int.mul_le_mul_of_nonneg_left (pow_le2 (by omega)) (Int.le_of_lt d0)) a
  apply mono
  split at h
  · rename_i h2
    rw [if_pos h2]
    split <;> omega
  · omega
theorem expF_hi {P : Nat} {lo hi num den : Int} (n0 : 0 ≤ num) (d0 : 0 < den) (h : expF P lo hi num den < hi) : ¬ le2 (expF P lo hi num den + P + 1) num den := by
  by_cases z : num = 0
  · subst z
    unfold le2
    rw [Int.zero_mul]
    exact Int.not_le.mpr (Int.mul_pos d0 (two_pos _))
  obtain ⟨_, b⟩ := logF_spec (show 0 < num by omega) d0
  have mono : ∀ k : Int, logF num den + 1 ≤ k → ¬ le2 k num den := fun k hk c => b (by
    obtain ⟨T, hT⟩ : ∃ T : Nat, 0 ≤ logF num den + 1 + T := ⟨(-(logF num den + 1)).toNat, by omega⟩
    rw [le2_shift T hT]
    rw [le2_shift T (by omega)] at c
    exact Int.le_trans (Int.mul_le_mul_of_nonneg_left (pow_le2 (by omega)) (Int.le_of_lt d0)) c)
  apply mono
  unfold expF at h ⊢
  rw [if_neg z] at h ⊢
  by_cases h2 : logF num den - P < hi
  · rw [if_pos h2] at h ⊢
    split <;> omega
  · rw [if_neg h2] at h ⊢
    split at h <;> omega
def posD (P : Nat) (lo hi num den : Int) : Int := den * 2 ^ (expF P lo hi num den).toNat
def posN (P : Nat) (lo hi num den : Int) : Int := num * 2 ^ (-expF P lo hi num den).toNat + (expF P lo hi num den - lo) * 2 ^ P * posD P lo hi num den
theorem posD_pos {P : Nat} {lo hi num den : Int} (d0 : 0 < den) : 0 < posD P lo hi num den := Int.mul_pos d0 (two_pos _)
theorem posN_nn {P : Nat} {lo hi num den : Int} (h : lo ≤ hi) (n0 : 0 ≤ num) (d0 : 0 < den) : 0 ≤ posN P lo hi num den := by
  obtain ⟨e0, e1⟩ := expF_in (P := P) (num := num) (den := den) h
  exact Int.add_nonneg (Int.mul_nonneg n0 (Int.le_of_lt (two_pos _))) (Int.mul_nonneg (Int.mul_nonneg (by omega) (Int.le_of_lt (two_pos _))) (Int.le_of_lt (posD_pos d0)))
theorem sgn_mul {x c : Int} (hc : 0 < c) : (0 ≤ x ↔ 0 ≤ x * c) ∧ (x ≤ 0 ↔ x * c ≤ 0) := by
  refine ⟨⟨fun h => Int.mul_nonneg h (Int.le_of_lt hc), fun h => ?_⟩, ⟨fun h => ?_, fun h => ?_⟩⟩
  · exact Int.le_of_mul_le_mul_right (a := c) (by rw [Int.zero_mul]; exact h) hc
  · have := Int.mul_le_mul_of_nonneg_right h (Int.le_of_lt hc)
    rwa [Int.zero_mul] at this
  · exact Int.le_of_mul_le_mul_right (a := c) (by rw [Int.zero_mul]; exact h) hc
theorem key_gt {Y D A B Q K g M t : Int} {k : Nat} (hD : 0 < D) (hB : 0 < B) (hQ : 0 < Q) (hK : K = 2 ^ k) (hg : g = k + 1) (hA : A = 2 * B * K) (hY : D * Q * A ≤ Y) (m1 : M < 2 * Q) (t0 : 0 ≤ t) (t1 : t ≤ 2) :
    (0 ≤ 2 * Y + (2 * g * Q - (2 * M + t)) * (D * A) ∧ 0 ≤ 2 * Y - (2 * M + t) * (D * B)) ∧ (2 * Y + (2 * g * Q - (2 * M + t)) * (D * A) ≤ 0 ↔ 2 * Y - (2 * M + t) * (D * B) ≤ 0) := by
  have k1 : 1 ≤ K := by rw [hK]; have := two_pos k; omega
  have hA0 : 0 < A := by rw [hA]; exact Int.mul_pos (Int.mul_pos (by decide) hB) (by omega)
  have hDA := Int.mul_pos hD hA0
  have hDB := Int.mul_pos hD hB
  have gQ : Q ≤ g * Q := by
    have := Int.mul_le_mul_of_nonneg_right (show 1 ≤ g by omega) (Int.le_of_lt hQ)
    omega
  have QK : Q ≤ Q * K := by
    have := Int.mul_le_mul_of_nonneg_left k1 (Int.le_of_lt hQ)
    omega
  have eL : 2 * Y + (2 * g * Q - (2 * M + t)) * (D * A) = 2 * (Y - D * Q * A) + (2 * Q + 2 * (g * Q) - (2 * M + t)) * (D * A) := by
    have : D * Q * A = Q * (D * A) := by rw [Int.mul_comm D Q, Int.mul_assoc]
    rw [this]
    simp only [Int.sub_mul, Int.add_mul, Int.mul_sub, Int.mul_assoc]
    omega
  have eR : 2 * Y - (2 * M + t) * (D * B) = 2 * (Y - D * Q * A) + (4 * (Q * K) - (2 * M + t)) * (D * B) := by
    have : D * Q * A = 2 * (Q * K) * (D * B) := by rw [hA, Int.mul_comm D Q]; simp only [Int.mul_assoc, Int.mul_comm, Int.mul_left_comm]
    rw [this]
    simp only [Int.sub_mul, Int.add_mul, Int.mul_sub, Int.mul_assoc]
    omega
  rw [eL, eR]
  have s2 : 0 ≤ 2 * Q + 2 * (g * Q) - (2 * M + t) := by omega
  have s3 : 0 ≤ 4 * (Q * K) - (2 * M + t) := by omega
  have p2 := Int.mul_nonneg s2 (Int.le_of_lt hDA)
  have p3 := Int.mul_nonneg s3 (Int.le_of_lt hDB)
  refine ⟨⟨by omega, by omega⟩, ⟨fun h => ?_, fun h => ?_⟩⟩
  · have z2 : (2 * Q + 2 * (g * Q) - (2 * M + t)) * (D * A) = 0 := by omega
    have z2 := (Int.mul_eq_zero.mp z2).resolve_right (by omega)
    have g1 : g * Q = Q := by omega
    have g1 : g = 1 := by
      have : g * Q ≤ 1 * Q := by omega
      have := Int.le_of_mul_le_mul_right this hQ
      omega
    have k0 : k = 0 := by omega
    have K1 : K = 1 := by rw [hK, k0]; rfl
    rw [K1, Int.mul_one, show 4 * Q - (2 * M + t) = 0 by omega, Int.zero_mul]
    omega
  · have z3 : (4 * (Q * K) - (2 * M + t)) * (D * B) = 0 := by omega
    have z3 := (Int.mul_eq_zero.mp z3).resolve_right (by omega)
    have K1 : K = 1 := by
      have : Q * K ≤ Q * 1 := by omega
      have := Int.le_of_mul_le_mul_left this hQ
      omega
    have k0 : k = 0 := Nat.eq_zero_of_not_pos fun h => by
      have := pow_le2 (show 1 ≤ k from h)
      rw [← hK, K1] at this
      exact absurd this (by decide)
    have g1 : g = 1 := by omega
    rw [g1, Int.one_mul, show 2 * Q + 2 * Q - (2 * M + t) = 0 by rw [K1, Int.mul_one] at z3; omega, Int.zero_mul]
    omega
theorem key_lt {Y D A B Q K g M t : Int} (hD : 0 < D) (hA0 : 0 < A) (hQ : 0 < Q) (k1 : 1 ≤ K) (hg : 1 ≤ g) (hB : B = 2 * A * K) (hY : Y < 2 * (D * Q * A)) (m0 : Q ≤ M) (t0 : 0 ≤ t) :
    2 * Y + (-(2 * g * Q) - (2 * M + t)) * (D * A) < 0 ∧ 2 * Y - (2 * M + t) * (D * B) < 0 := by
  have hDA := Int.mul_pos hD hA0
  have gQ : Q ≤ g * Q := by
    have := Int.mul_le_mul_of_nonneg_right hg (Int.le_of_lt hQ)
    omega
  have e : D * Q * A = Q * (D * A) := by rw [Int.mul_comm D Q, Int.mul_assoc]
  rw [e] at hY
  constructor
  · have : (-(2 * g * Q) - (2 * M + t)) * (D * A) ≤ -(4 * Q) * (D * A) := Int.mul_le_mul_of_nonneg_right (by rw [Int.mul_assoc]; omega) (Int.le_of_lt hDA)
    rw [Int.neg_mul, Int.mul_assoc 4] at this
    omega
  · have h1 : D * B = 2 * K * (D * A) := by rw [hB]; simp only [Int.mul_assoc, Int.mul_comm, Int.mul_left_comm]
    have h2 : 2 * Q ≤ (2 * M + t) * K := by
      have := Int.mul_le_mul (show 2 * Q ≤ 2 * M + t by omega) k1 (by decide) (by omega)
      omega
    have h3 : 2 * Q * (2 * (D * A)) ≤ (2 * M + t) * K * (2 * (D * A)) := Int.mul_le_mul_of_nonneg_right h2 (by omega)
    have h4 : (2 * M + t) * (D * B) = (2 * M + t) * K * (2 * (D * A)) := by rw [h1]; simp only [Int.mul_assoc, Int.mul_comm, Int.mul_left_comm]
    have h5 : 2 * Q * (2 * (D * A)) = 4 * (Q * (D * A)) := by rw [Int.mul_assoc 2 Q, Int.mul_left_comm Q 2]; omega
    rw [h4]; omega
/-- where a fraction lies among the numbers is where its position lies among the codes -/
theorem pos_key {P : Nat} {lo hi num den M E t : Int} (hlh : lo ≤ hi) (n0 : 0 ≤ num) (d0 : 0 < den) (c : can P lo hi M E) (t0 : 0 ≤ t) (t1 : t ≤ 2) :
    ((2 * ((E - lo) * 2 ^ P + M) + t) * posD P lo hi num den ≤ 2 * posN P lo hi num den ↔ (2 * M + t) * (den * 2 ^ E.toNat) ≤ 2 * (num * 2 ^ (-E).toNat)) ∧
    (2 * posN P lo hi num den ≤ (2 * ((E - lo) * 2 ^ P + M) + t) * posD P lo hi num den ↔ 2 * (num * 2 ^ (-E).toNat) ≤ (2 * M + t) * (den * 2 ^ E.toNat)) := by
  obtain ⟨m0, m1, l, h, cc⟩ := c
  obtain ⟨e0, e1⟩ := expF_in (P := P) (num := num) (den := den) hlh
  have flo := expF_lo (P := P) (lo := lo) (hi := hi) n0 d0
  have fhi := expF_hi (P := P) (lo := lo) (hi := hi) n0 d0
  unfold posN posD
  generalize expF P lo hi num den = e at *
  obtain ⟨T, hT⟩ : ∃ T : Nat, T = (-E).toNat + (-e).toNat := ⟨_, rfl⟩
  have hQ := two_pos P
  -- both sides times a power of two
  have L : ∀ x : Int, (2 * (num * 2 ^ (-e).toNat + (e - lo) * 2 ^ P * (den * 2 ^ e.toNat)) - x * (den * 2 ^ e.toNat)) * 2 ^ (-E).toNat = 2 * (num * 2 ^ T) + (2 * (e - lo) * 2 ^ P - x) * (den * 2 ^ (e + T).toNat) := fun x => by
    rw [show (e + T).toNat = e.toNat + (-E).toNat by omega, show T = (-e).toNat + (-E).toNat by omega, Int.pow_add, Int.pow_add]
    simp only [Int.add_mul, Int.sub_mul, Int.mul_add, Int.mul_assoc, Int.add_sub_assoc]
  have R : (2 * (num * 2 ^ (-E).toNat) - (2 * M + t) * (den * 2 ^ E.toNat)) * 2 ^ (-e).toNat = 2 * (num * 2 ^ T) - (2 * M + t) * (den * 2 ^ (E + T).toNat) := by
    rw [show (E + T).toNat = E.toNat + (-e).toNat by omega, hT, Int.pow_add, Int.pow_add]
    simp only [Int.sub_mul, Int.mul_assoc]
  obtain ⟨La, Lb⟩ := sgn_mul (x := 2 * (num * 2 ^ (-e).toNat + (e - lo) * 2 ^ P * (den * 2 ^ e.toNat)) - (2 * ((E - lo) * 2 ^ P + M) + t) * (den * 2 ^ e.toNat)) (two_pos (-E).toNat)
  obtain ⟨Ra, Rb⟩ := sgn_mul (x := 2 * (num * 2 ^ (-E).toNat) - (2 * M + t) * (den * 2 ^ E.toNat)) (two_pos (-e).toNat)
  rw [L] at La Lb
  rw [R] at Ra Rb
  have eg : 2 * (e - lo) * 2 ^ P - (2 * ((E - lo) * 2 ^ P + M) + t) = 2 * (e - E) * 2 ^ P - (2 * M + t) := by
    simp only [Int.sub_mul, Int.mul_add, Int.mul_sub, Int.mul_assoc]; omega
  rw [eg] at La Lb
  have fin : (0 ≤ 2 * (num * 2 ^ T) + (2 * (e - E) * 2 ^ P - (2 * M + t)) * (den * 2 ^ (e + T).toNat) ↔ 0 ≤ 2 * (num * 2 ^ T) - (2 * M + t) * (den * 2 ^ (E + T).toNat)) ∧ (2 * (num * 2 ^ T) + (2 * (e - E) * 2 ^ P - (2 * M + t)) * (den * 2 ^ (e + T).toNat) ≤ 0 ↔ 2 * (num * 2 ^ T) - (2 * M + t) * (den * 2 ^ (E + T).toNat) ≤ 0) := by
    rcases Int.lt_trichotomy e E with w | w | w
    · have hi1 := fhi (by omega)
      rw [le2_shift T (by omega)] at hi1
      have cM : 2 ^ P ≤ M := cc.resolve_right (by omega)
      obtain ⟨k, hk⟩ : ∃ k : Nat, E = e + k + 1 := ⟨(E - e - 1).toNat, by omega⟩
      have ex : (2 : Int) ^ (E + T).toNat = 2 * 2 ^ (e + T).toNat * 2 ^ k := by
        rw [show (E + T).toNat = (e + T).toNat + 1 + k by omega, Int.pow_add, Int.pow_succ, Int.mul_comm (2 ^ (e + T).toNat) 2]
      have hY : num * 2 ^ T < 2 * (den * 2 ^ P * 2 ^ (e + T).toNat) := by
        have : (2 : Int) ^ (e + P + 1 + T).toNat = 2 ^ P * 2 ^ (e + T).toNat * 2 := by
          rw [show (e + P + 1 + T).toNat = P + (e + T).toNat + 1 by omega, Int.pow_succ, Int.pow_add]
        rw [this] at hi1
        have e2 : den * (2 ^ P * 2 ^ (e + T).toNat * 2) = 2 * (den * 2 ^ P * 2 ^ (e + T).toNat) := by simp only [Int.mul_assoc, Int.mul_comm, Int.mul_left_comm]
        omega
      have kk : (1 : Int) ≤ 2 ^ k := by have := two_pos k; omega
      obtain ⟨z1, z2⟩ := key_lt (g := E - e) (t := t) d0 (two_pos (e + T).toNat) hQ kk (by omega) ex hY cM t0
      have e3 : 2 * (e - E) * 2 ^ P - (2 * M + t) = -(2 * (E - e) * 2 ^ P) - (2 * M + t) := by
        simp only [Int.mul_sub, Int.sub_mul]; omega
      rw [e3]
      exact ⟨⟨fun x => by omega, fun x => by omega⟩, ⟨fun _ => by omega, fun _ => by omega⟩⟩
    · subst w
      rw [Int.sub_self, Int.mul_zero, Int.zero_mul, Int.zero_sub, Int.neg_mul, ← Int.sub_eq_add_neg]
      exact ⟨Iff.rfl, Iff.rfl⟩
    · have lo1 := flo (by omega)
      rw [le2_shift T (by omega)] at lo1
      obtain ⟨k, hk⟩ : ∃ k : Nat, e = E + k + 1 := ⟨(e - E - 1).toNat, by omega⟩
      have ex : (2 : Int) ^ (e + T).toNat = 2 * 2 ^ (E + T).toNat * 2 ^ k := by
        rw [show (e + T).toNat = (E + T).toNat + 1 + k by omega, Int.pow_add, Int.pow_succ, Int.mul_comm (2 ^ (E + T).toNat) 2]
      have hY : den * 2 ^ P * 2 ^ (e + T).toNat ≤ num * 2 ^ T := by
        rw [show (e + P + T).toNat = P + (e + T).toNat by omega, Int.pow_add, ← Int.mul_assoc] at lo1
        exact lo1
      have m1' : M < 2 * 2 ^ P := by rw [Int.pow_succ] at m1; omega
      obtain ⟨⟨z1, z2⟩, z3⟩ := key_gt (g := e - E) (t := t) d0 (two_pos (E + T).toNat) hQ rfl (by omega) ex hY m1' t0 t1
      exact ⟨⟨fun _ => z2, fun _ => z1⟩, z3⟩
  refine ⟨⟨fun x => ?_, fun x => ?_⟩, ⟨fun x => ?_, fun x => ?_⟩⟩
  · have := Ra.mpr (fin.1.mp (La.mp (by omega)))
    omega
  · have := La.mpr (fin.1.mpr (Ra.mp (by omega)))
    omega
  · have := Rb.mpr (fin.2.mp (Lb.mp (by omega)))
    omega
  · have := Lb.mpr (fin.2.mpr (Rb.mp (by omega)))
    omega
/-- a format as a value -/
def fm (P : Nat) (lo hi : Int) : D := .tup [.int (P + 1), .int lo, .int hi]
def okf (P : Nat) (lo hi : Int) : Prop := P ≤ 127 ∧ -1200 ≤ lo ∧ lo ≤ hi ∧ hi ≤ 1200
def F_count_of : DSp := fun ds μ Gd => ∃ (P : Nat) (lo hi : Int), ds = [fm P lo hi] ∧ okf P lo hi ∧ Gd (.int (countF P lo hi)) μ
-- count_of: slots 0=form 1=p 2=low 3=high; level 1; calls 
def t_count_of : DTS :=
  dSeq (dAsg (dVar 0) (dgSeq 3 (dgCons (dgName 1) (dgCons (dgName 2) (dgCons (dgName 3) (dgNil)))))) (dRet (dOp dShl (dOp dAdd (dOp dSub (dVar 3) (dVar 2)) (dC (.int 2))) (dOp dSub (dVar 1) (dC (.int 1)))))
theorem cnt_count_of : ∀ ds μ Gd, F_count_of ds μ Gd → ds.length = 1 := by
  rintro ds μ Gd ⟨a, b, c, rfl, _⟩; rfl
theorem ok_count_of : ∀ ds μ Gd, F_count_of ds μ Gd → t_count_of { nx := fun _ μ' => Gd .non μ', rt := Gd } (startD 4 ds) μ := by
  rintro ds μ Gd ⟨P, lo, hi, rfl, ⟨o1, o2, o3, o4⟩, q⟩
  show t_count_of _ [some (.tup [.int (P + 1), .int lo, .int hi]), none, none, none] _
  unfold t_count_of
  walk_at "d"
  refine e_shlN (n := 12) P (by omega) (bd_small 12 (by omega)) (by omega) ?_
  walk_at "d"
  exact q
theorem bd_count {P : Nat} {lo hi : Int} (o : okf P lo hi) : Bd 140 (countF P lo hi) := by
  obtain ⟨o1, o2, o3, o4⟩ := o
  have h1 : Bd 12 (hi - lo + 2) := bd_small 12 (by omega)
  have h2 : Bd 128 ((2 : Int) ^ P) := by
    show ((2 : Int) ^ P).natAbs < 2 ^ 128
    rw [Int.natAbs_pow]
    exact Nat.pow_lt_pow_right (by decide) (by omega)
  exact bd_mul h1 h2
/-! ### the program's powers and shifts -/
theorem pow_bd {b : Int} (k : Nat) (h : b.natAbs ≤ 16) : Bd (4 * k + 1) (b ^ k) := by
  show (b ^ k).natAbs < 2 ^ (4 * k + 1)
  rw [Int.natAbs_pow]
  refine Nat.lt_of_le_of_lt (Nat.pow_le_pow_left (show b.natAbs ≤ 2 ^ 4 from h) k) ?_
  rw [← Nat.pow_mul]
  exact Nat.pow_lt_pow_right (by decide) (by omega)
theorem half_bit (k i : Nat) : k / 2 ^ i = 2 * (k / 2 ^ (i + 1)) + k / 2 ^ i % 2 := by
  rw [Nat.pow_succ, ← Nat.div_div_eq_div_mul]
  generalize k / 2 ^ i = a
  omega
def F_raised : DSp := fun ds μ Gd => ∃ (b : Int) (k : Nat), ds = [.int b, .int k] ∧ k ≤ 10000 ∧ b.natAbs ≤ 16 ∧ Gd (.int (b ^ k)) μ
-- raised: slots 0=base 1=exponent 2=result 3=place; level 1; calls 
def t_raised : DTS :=
  dSeq (dAsg (dC (.int 1)) (dgName 2)) (dSeq (dFor (dRevRg (dBits (dVar 1))) (dgName 3) (dSeq (dAsg (dOp dMul (dVar 2) (dVar 2)) (dgName 2)) (dIfS (dTest (dOp dEq (dOp dAnd (dOp dShr (dVar 1) (dVar 3)) (dC (.int 1))) (dC (.int 1)))) (dAsg (dOp dMul (dVar 2) (dVar 0)) (dgName 2)) (dNext)))) (dRet (dVar 2)))
theorem cnt_raised : ∀ ds μ Gd, F_raised ds μ Gd → ds.length = 2 := by
  rintro ds μ Gd ⟨i, k, rfl, _⟩; rfl
theorem rev_rng {n i : Nat} {x : D} (e : (rngD 0 n).reverse[i]? = some x) : i < n ∧ x = .int ((n - 1 - i : Nat) : Int) := by
  have hi := (List.getElem?_eq_some_iff.mp e).1
  rw [List.length_reverse, rngD_len] at hi
  rw [List.getElem?_reverse (by rw [rngD_len]; exact hi), rngD_len] at e
  unfold rngD at e
  rw [List.getElem?_map, List.getElem?_range (by omega)] at e
  cases e
  exact ⟨hi, congrArg D.int (Int.zero_add _)⟩
theorem ok_raised : ∀ ds μ Gd, F_raised ds μ Gd → t_raised { nx := fun _ μ' => Gd .non μ', rt := Gd } (startD 4 ds) μ := by
  rintro ds μ Gd ⟨b, k, rfl, k1, hb, q⟩
  show t_raised _ [some (.int b), some (.int k), none, none] _
  unfold t_raised
  have hbits : Builtin.Int.intBits (k : Int) ≤ 14 := PyProof.Rows.intBits_le (by show (k : Int).natAbs < 2 ^ 14; omega)
  have hk : k < 2 ^ Builtin.Int.intBits (k : Int) := by
    have := PyProof.Rows.natAbs_lt_pow_bits (k : Int)
    rwa [Int.natAbs_natCast] at this
  walk_at "d"
  refine ⟨⟨by omega, by omega⟩, ?_⟩
  rw [Int.toNat_natCast]
  generalize Builtin.Int.intBits (k : Int) = n at *
  refine loop_inv (fun i σ μ' => i ≤ n ∧ ∃ z, σ = [some (.int b), some (.int k), some (.int (b ^ (k / 2 ^ (n - i)))), z] ∧ μ' = μ) _ 0 _ μ ⟨Nat.zero_le _, none, ?_, rfl⟩ ?_ ?_
  · rw [Nat.sub_zero, Nat.div_eq_of_lt hk, Int.pow_zero]; rfl
  · rintro i x σ μ' K e ⟨hi0, z, rfl, rfl⟩ hK
    obtain ⟨hi, rfl⟩ := rev_rng e
    rw [Nat.zero_add] at hK ⊢
    have hpos : n - i = n - 1 - i + 1 := by omega
    rw [hpos]
    have hh := half_bit k (n - 1 - i)
    have hle : k / 2 ^ (n - 1 - i + 1) ≤ k := Nat.div_le_self _ _
    walk_at "d"
    refine e_mulI (mul_ok (pow_bd _ hb) (pow_bd _ hb) (by omega)) ?_
    walk_at "d"
    rw [← Int.pow_add, ← Nat.two_mul]
    refine e_shrN (n - 1 - i) rfl ?_
    refine e_andI ?_
    rw [PyProof.Rows.bitAnd_m1]
    have ek : ((k : Int) / 2 ^ (n - 1 - i)) % 2 = ((k / 2 ^ (n - 1 - i) % 2 : Nat) : Int) := by
      push_cast; rfl
    rw [ek]
    walk_at "d"
    refine e_if (fun h1 => ?_) (fun h1 => ?_)
    · walk_at "d"
      refine e_mulI (mul_ok (pow_bd _ hb) (j := 5) (Nat.lt_of_le_of_lt hb (by decide)) (by omega)) ?_
      walk_at "d"
      rw [← Int.pow_succ, show (2 * (k / 2 ^ (n - 1 - i + 1))).succ = k / 2 ^ (n - (i + 1)) by rw [show n - (i + 1) = n - 1 - i by omega]; omega]
      exact hK _ _ ⟨by omega, _, rfl, rfl⟩
    · walk_at "d"
      rw [show 2 * (k / 2 ^ (n - 1 - i + 1)) = k / 2 ^ (n - (i + 1)) by rw [show n - (i + 1) = n - 1 - i by omega]; omega]
      exact hK _ _ ⟨by omega, _, rfl, rfl⟩
  · rintro σ μ' ⟨hi0, z, rfl, rfl⟩
    rw [Nat.zero_add, List.length_reverse, rngD_len, Nat.sub_self, Nat.pow_zero, Nat.div_one]
    walk_at "d"
    exact q
def F_shifted : DSp := fun ds μ Gd => ∃ n s : Int, ds = [.int n, .int s] ∧ Bd 100000 n ∧ -50000 ≤ s ∧ s ≤ 50000 ∧ Gd (.tup [.int (n * 2 ^ s.toNat), .int (2 ^ (-s).toNat)]) μ
-- shifted: slots 0=n 1=shift; level 1; calls 
def t_shifted : DTS :=
  dSeq (dIfS (dTest (dOp dLt (dVar 1) (dC (.int 0)))) (dRet (dTup (dCons (dVar 0) (dCons (dOp dShl (dC (.int 1)) (dUn dNeg (dVar 1))) (dNil))))) (dNext)) (dRet (dTup (dCons (dOp dShl (dVar 0) (dVar 1)) (dCons (dC (.int 1)) (dNil)))))
theorem cnt_shifted : ∀ ds μ Gd, F_shifted ds μ Gd → ds.length = 2 := by
  rintro ds μ Gd ⟨i, k, rfl, _⟩; rfl
theorem ok_shifted : ∀ ds μ Gd, F_shifted ds μ Gd → t_shifted { nx := fun _ μ' => Gd .non μ', rt := Gd } (startD 2 ds) μ := by
  rintro ds μ Gd ⟨n, s, rfl, bn, s0, s1, q⟩
  show t_shifted _ [some (.int n), some (.int s)] _
  unfold t_shifted
  walk_at "d"
  refine e_if (fun h => ?_) (fun h => ?_)
  · walk_at "d"
    refine e_shlN (n := 2) (-s).toNat (by omega) (bd_small 2 (by decide)) (by omega) ?_
    rw [Int.one_mul]
    walk_at "d"
    rw [show s.toNat = 0 by omega, Int.pow_zero, Int.mul_one] at q
    exact q
  · walk_at "d"
    refine e_shlN s.toNat (by omega) bn (by omega) ?_
    walk_at "d"
    rw [show (-s).toNat = 0 by omega, Int.pow_zero] at q
    exact q
def F_fraction_of : DSp := fun ds μ Gd => ∃ d p : Int, ds = [.tup [.int d, .int p]] ∧ Bd 100000 d ∧ -10000 ≤ p ∧ p ≤ 10000 ∧ Gd (.tup [.int (d * 10 ^ p.toNat), .int (10 ^ (-p).toNat)]) μ
-- fraction_of: slots 0=decimal 1=d 2=q; level 2; calls raised
def t_fraction_of : DTS :=
  dSeq (dAsg (dVar 0) (dgSeq 2 (dgCons (dgName 1) (dgCons (dgName 2) (dgNil))))) (dSeq (dIfS (dTest (dOp dLt (dVar 2) (dC (.int 0)))) (dRet (dTup (dCons (dVar 1) (dCons (dCall F_raised (dCons (dC (.int 10)) (dCons (dUn dNeg (dVar 2)) (dNil)))) (dNil))))) (dNext)) (dRet (dTup (dCons (dOp dMul (dVar 1) (dCall F_raised (dCons (dC (.int 10)) (dCons (dVar 2) (dNil))))) (dCons (dC (.int 1)) (dNil))))))
theorem cnt_fraction_of : ∀ ds μ Gd, F_fraction_of ds μ Gd → ds.length = 1 := by
  rintro ds μ Gd ⟨i, k, rfl, _⟩; rfl
theorem ok_fraction_of : ∀ ds μ Gd, F_fraction_of ds μ Gd → t_fraction_of { nx := fun _ μ' => Gd .non μ', rt := Gd } (startD 3 ds) μ := by
  rintro ds μ Gd ⟨d, p, rfl, bd, p0, p1, q⟩
  show t_fraction_of _ [some (.tup [.int d, .int p]), none, none] _
  unfold t_fraction_of
  walk_at "d"
  refine e_if (fun h => ?_) (fun h => ?_)
  · walk_at "d"
    refine ⟨10, (-p).toNat, by rw [show (((-p).toNat : Nat) : Int) = -p by omega], by omega, by decide, ?_⟩
    walk_at "d"
    rw [show p.toNat = 0 by omega, Int.pow_zero, Int.mul_one] at q
    exact q
  · walk_at "d"
    refine ⟨10, p.toNat, by rw [show ((p.toNat : Nat) : Int) = p by omega], by omega, by decide, ?_⟩
    refine e_mulI (mul_ok bd (pow10_bd _) (by omega)) ?_
    walk_at "d"
    rw [show (-p).toNat = 0 by omega, Int.pow_zero] at q
    exact q
/-! ### reading -/
inductive Way where
  | even | away | zero | out | odd
def Way.s : Way → Str
  | .even => PySem.Str.ofString "even"
  | .away => PySem.Str.ofString "away"
  | .zero => PySem.Str.ofString "zero"
  | .out => PySem.Str.ofString "out"
  | .odd => PySem.Str.ofString "odd"
def wayF (w : Way) (n d : Int) : Int :=
  if n % d = 0 then n / d else match w with
  | .zero => n / d
  | .out => n / d + 1
  | .odd => n / d + 1 - n / d % 2
  | .away => if 2 * (n % d) = d then n / d + 1 else if 2 * (n % d) > d then n / d + 1 else n / d
  | .even => if 2 * (n % d) = d then n / d + n / d % 2 else if 2 * (n % d) > d then n / d + 1 else n / d
def greatF (P : Nat) (lo hi : Int) : Way → Int
  | .zero => countF P lo hi - 1
  | .odd => countF P lo hi - 1 + 1 - (countF P lo hi - 1) % 2
  | _ => countF P lo hi
def readF (P : Nat) (lo hi : Int) (w : Way) (num den : Int) : Int :=
  if greatF P lo hi w < wayF w (posN P lo hi num den) (posD P lo hi num den) then greatF P lo hi w else wayF w (posN P lo hi num den) (posD P lo hi num den)
def okq (num den : Int) : Prop := 0 ≤ num ∧ 0 < den ∧ Bd 20000 num ∧ Bd 7000 den
def F_exponent_at : DSp := fun ds μ Gd => ∃ (P : Nat) (lo hi num den : Int), ds = [fm P lo hi, .int num, .int den] ∧ okf P lo hi ∧ okq num den ∧ Gd (.int (expF P lo hi num den)) μ
-- exponent_at: slots 0=form 1=num 2=den 3=p 4=low 5=high; level 2; calls log_of
def t_exponent_at : DTS :=
  dSeq (dAsg (dVar 0) (dgSeq 3 (dgCons (dgName 3) (dgCons (dgName 4) (dgCons (dgName 5) (dgNil)))))) (dSeq (dIfS (dTest (dOp dEq (dVar 1) (dC (.int 0)))) (dRet (dVar 4)) (dNext)) (dRet (dCB dMax2 (dCons (dVar 4) (dCons (dCB dMin2 (dCons (dVar 5) (dCons (dOp dAdd (dOp dSub (dCall F_log_of (dCons (dVar 1) (dCons (dVar 2) (dNil)))) (dVar 3)) (dC (.int 1))) (dNil)))) (dNil))))))
theorem cnt_exponent_at : ∀ ds μ Gd, F_exponent_at ds μ Gd → ds.length = 3 := by
  rintro ds μ Gd ⟨a, b, c, d, e, rfl, _⟩; rfl
theorem ok_exponent_at : ∀ ds μ Gd, F_exponent_at ds μ Gd → t_exponent_at { nx := fun _ μ' => Gd .non μ', rt := Gd } (startD 6 ds) μ := by
  rintro ds μ Gd ⟨P, lo, hi, num, den, rfl, ⟨o1, o2, o3, o4⟩, ⟨n0, d0, bn, bd⟩, q⟩
  show t_exponent_at _ [some (.tup [.int (P + 1), .int lo, .int hi]), some (.int num), some (.int den), none, none, none] _
  unfold t_exponent_at
  unfold expF at q
  walk_at "d"
  refine e_if (fun h => ?_) (fun h => ?_)
  · rw [if_pos h] at q
    walk_at "d"
    exact q
  · rw [if_neg h] at q
    walk_at "d"
    refine ⟨num, den, rfl, bd_up bn (by decide), bd_up bd (by decide), ?_⟩
    walk_at "d"
    rw [show logF num den - ((P : Int) + 1) + 1 = logF num den - P by omega]
    exact q
theorem bd_expo {P : Nat} {lo hi num den : Int} (o : okf P lo hi) : -1200 ≤ expF P lo hi num den ∧ expF P lo hi num den ≤ 1200 := by
  obtain ⟨o1, o2, o3, o4⟩ := o
  obtain ⟨h1, h2⟩ := expF_in (P := P) (num := num) (den := den) o3
  exact ⟨by omega, by omega⟩
theorem bd_posD {P : Nat} {lo hi num den : Int} (o : okf P lo hi) (k : okq num den) : Bd 8201 (posD P lo hi num den) := by
  obtain ⟨n0, d0, bn, bd⟩ := k
  obtain ⟨h1, h2⟩ := bd_expo (num := num) (den := den) o
  exact bd_mul bd (bd_pow (n := 1201) (by omega))
theorem bd_posN {P : Nat} {lo hi num den : Int} (o : okf P lo hi) (k : okq num den) : Bd 30000 (posN P lo hi num den) := by
  have bD := bd_posD o k
  obtain ⟨n0, d0, bn, bd⟩ := k
  obtain ⟨h1, h2⟩ := bd_expo (num := num) (den := den) o
  obtain ⟨o1, o2, o3, o4⟩ := id o
  have b1 : Bd 21201 (num * 2 ^ (-expF P lo hi num den).toNat) := bd_mul bn (bd_pow (n := 1201) (by omega))
  have b2 : Bd 12 (expF P lo hi num den - lo) := bd_small 12 (by omega)
  have b3 : Bd 140 ((expF P lo hi num den - lo) * 2 ^ P) := bd_mul b2 (bd_pow (n := 128) (by omega))
  exact bd_up (bd_add (k := 21201) b1 (bd_up (bd_mul b3 bD) (by decide))) (by decide)
def F_rough_position : DSp := fun ds μ Gd => ∃ (P : Nat) (lo hi num den : Int), ds = [fm P lo hi, .int num, .int den] ∧ okf P lo hi ∧ okq num den ∧ Gd (.tup [.int (posN P lo hi num den), .int (posD P lo hi num den)]) μ
-- rough_position: slots 0=form 1=num 2=den 3=p 4=low 5=_ 6=e; level 3; calls exponent_at
def t_rough_position : DTS :=
  dSeq (dAsg (dVar 0) (dgSeq 3 (dgCons (dgName 3) (dgCons (dgName 4) (dgCons (dgName 5) (dgNil)))))) (dSeq (dAsg (dCall F_exponent_at (dCons (dVar 0) (dCons (dVar 1) (dCons (dVar 2) (dNil))))) (dgName 6)) (dSeq (dIfS (dTest (dOp dGe (dVar 6) (dC (.int 0)))) (dAsg (dOp dShl (dVar 2) (dVar 6)) (dgName 2)) (dAsg (dOp dShl (dVar 1) (dUn dNeg (dVar 6))) (dgName 1))) (dRet (dTup (dCons (dOp dAdd (dVar 1) (dOp dMul (dOp dShl (dOp dSub (dVar 6) (dVar 4)) (dOp dSub (dVar 3) (dC (.int 1)))) (dVar 2))) (dCons (dVar 2) (dNil)))))))
theorem cnt_rough_position : ∀ ds μ Gd, F_rough_position ds μ Gd → ds.length = 3 := by
  rintro ds μ Gd ⟨a, b, c, d, e, rfl, _⟩; rfl
theorem ok_rough_position : ∀ ds μ Gd, F_rough_position ds μ Gd → t_rough_position { nx := fun _ μ' => Gd .non μ', rt := Gd } (startD 7 ds) μ := by
  rintro ds μ Gd ⟨P, lo, hi, num, den, rfl, o, k, q⟩
  show t_rough_position _ [some (fm P lo hi), some (.int num), some (.int den), none, none, none, none] _
  unfold t_rough_position
  have bD := bd_posD o k
  obtain ⟨h1, h2⟩ := bd_expo (num := num) (den := den) o
  obtain ⟨o1, o2, o3, o4⟩ := id o
  obtain ⟨n0, d0, bn, bd⟩ := id k
  unfold posN posD at q
  unfold posD at bD
  walk_at "d"
  show dgSeq 3 _ (.tup [.int (P + 1), .int lo, .int hi]) _ _ _
  walk_at "d"
  refine ⟨P, lo, hi, num, den, rfl, o, k, ?_⟩
  generalize expF P lo hi num den = e at *
  walk_at "d"
  refine e_if (fun h => ?_) (fun h => ?_)
  · rw [show (-e).toNat = 0 by omega, Int.pow_zero, Int.mul_one] at q
    walk_at "d"
    refine e_shlN e.toNat (by omega) bd (by omega) ?_
    walk_at "d"
    refine e_shlN (n := 12) P (by omega) (bd_small 12 (by omega)) (by omega) ?_
    walk_at "d"
    refine e_mulI (mul_ok (bd_mul (bd_small (x := e - lo) 12 (by omega)) (bd_pow (k := P) (n := 128) (by omega))) bD) ?_
    walk_at "d"
    exact q
  · rw [show e.toNat = 0 by omega, Int.pow_zero, Int.mul_one] at q bD
    walk_at "d"
    refine e_shlN (-e).toNat (by omega) bn (by omega) ?_
    walk_at "d"
    refine e_shlN (n := 12) P (by omega) (bd_small 12 (by omega)) (by omega) ?_
    walk_at "d"
    refine e_mulI (mul_ok (bd_mul (bd_small (x := e - lo) 12 (by omega)) (bd_pow (k := P) (n := 128) (by omega))) bD) ?_
    walk_at "d"
    exact q
theorem orI {i j : Int} {μ : Mem} {Q : D → Mem → Prop} (h : Q (.int (Builtin.bitOr i j)) μ) : dOr (.int i) (.int j) μ Q := ⟨i, j, rfl, rfl, h⟩
theorem or_one (x : Int) : Builtin.bitOr x 1 = x + 1 - x % 2 := by rw [PyProof.Rows.bitOr_and, PyProof.Rows.bitAnd_m1]
def F_rounded_by : DSp := fun ds μ Gd => ∃ (w : Way) (n d : Int), ds = [.str w.s, .int n, .int d] ∧ 0 < d ∧ Bd 8999 d ∧ Gd (.int (wayF w n d)) μ
-- rounded_by: slots 0=way 1=n 2=d 3=whole 4=rest; level 1; calls 
def t_rounded_by : DTS :=
  dSeq (dAsg (dOp dFdiv (dVar 1) (dVar 2)) (dgName 3)) (dSeq (dAsg (dOp dMod (dVar 1) (dVar 2)) (dgName 4)) (dSeq (dIfS (dOrT (dTest (dOp dEq (dVar 4) (dC (.int 0)))) (dTest (dOp dEq (dVar 0) (dC (.str (PySem.Str.ofString "zero")))))) (dRet (dVar 3)) (dNext)) (dSeq (dIfS (dTest (dOp dEq (dVar 0) (dC (.str (PySem.Str.ofString "out"))))) (dRet (dOp dAdd (dVar 3) (dC (.int 1)))) (dNext)) (dSeq (dIfS (dTest (dOp dEq (dVar 0) (dC (.str (PySem.Str.ofString "odd"))))) (dRet (dOp dOr (dVar 3) (dC (.int 1)))) (dNext)) (dSeq (dIfS (dTest (dOp dEq (dOp dMul (dC (.int 2)) (dVar 4)) (dVar 2))) (dRet (dIf (dTest (dOp dEq (dVar 0) (dC (.str (PySem.Str.ofString "away"))))) (dOp dAdd (dVar 3) (dC (.int 1))) (dOp dAdd (dVar 3) (dOp dMod (dVar 3) (dC (.int 2)))))) (dNext)) (dRet (dIf (dTest (dOp dGt (dOp dMul (dC (.int 2)) (dVar 4)) (dVar 2))) (dOp dAdd (dVar 3) (dC (.int 1))) (dVar 3))))))))
theorem cnt_rounded_by : ∀ ds μ Gd, F_rounded_by ds μ Gd → ds.length = 3 := by
  rintro ds μ Gd ⟨a, b, c, rfl, _⟩; rfl
theorem w_zero (w : Way) : decide (w.s = PySem.Str.ofString "zero") = (match w with | .zero => true | _ => false) := by cases w <;> decide +kernel
theorem w_out (w : Way) : decide (w.s = PySem.Str.ofString "out") = (match w with | .out => true | _ => false) := by cases w <;> decide +kernel
theorem w_odd (w : Way) : decide (w.s = PySem.Str.ofString "odd") = (match w with | .odd => true | _ => false) := by cases w <;> decide +kernel
theorem w_away (w : Way) : decide (w.s = PySem.Str.ofString "away") = (match w with | .away => true | _ => false) := by cases w <;> decide +kernel
theorem ok_rounded_by : ∀ ds μ Gd, F_rounded_by ds μ Gd → t_rounded_by { nx := fun _ μ' => Gd .non μ', rt := Gd } (startD 5 ds) μ := by
  rintro ds μ Gd ⟨w, n, d, rfl, d0, bd, q⟩
  show t_rounded_by _ [some (.str w.s), some (.int n), some (.int d), none, none] _
  unfold t_rounded_by
  have hz := w_zero w
  have ho := w_out w
  have hd := w_odd w
  have ha := w_away w
  generalize w.s = z at *
  have hd0 : CDivW n d := div_ok d0 bd
  walk_at "d"
  refine e_fdiv hd0 ?_
  walk_at "d"
  unfold wayF at q
  refine e_if (fun h => ?_) (fun h => ?_)
  · rw [if_pos h] at q
    walk_at "d"
    exact q
  rw [if_neg h] at q
  walk_at "d"
  have br : Bd 8999 (n % d) := bd_mod d0 bd
  cases w with
  | zero =>
    refine e_ifT hz ?_
    walk_at "d"
    exact q
  | out =>
    refine e_ifF hz ?_
    walk_at "d"
    refine e_ifT ho ?_
    walk_at "d"
    exact q
  | odd =>
    refine e_ifF hz ?_
    walk_at "d"
    refine e_ifF ho ?_
    walk_at "d"
    refine e_ifT hd ?_
    walk_at "d"
    refine orI ?_
    rw [or_one]
    exact q
  | away =>
    refine e_ifF hz ?_
    walk_at "d"
    refine e_ifF ho ?_
    walk_at "d"
    refine e_ifF hd ?_
    walk_at "d"
    refine e_mulI (mul_ok (i := 2) (by decide) br) ?_
    walk_at "d"
    refine e_if (fun h2 => ?_) (fun h2 => ?_)
    · have q : Gd (.int (if 2 * (n % d) = d then n / d + 1 else if 2 * (n % d) > d then n / d + 1 else n / d)) μ := q
      rw [if_pos h2] at q
      walk_at "d"
      refine e_ifT ha ?_
      walk_at "d"
      exact q
    · have q : Gd (.int (if 2 * (n % d) = d then n / d + 1 else if 2 * (n % d) > d then n / d + 1 else n / d)) μ := q
      rw [if_neg h2] at q
      walk_at "d"
      refine e_mulI (mul_ok (i := 2) (by decide) br) ?_
      walk_at "d"
      refine e_if (fun h3 => ?_) (fun h3 => ?_)
      · rw [if_pos h3] at q
        walk_at "d"
        exact q
      · rw [if_neg h3] at q
        walk_at "d"
        exact q
  | even =>
    refine e_ifF hz ?_
    walk_at "d"
    refine e_ifF ho ?_
    walk_at "d"
    refine e_ifF hd ?_
    walk_at "d"
    refine e_mulI (mul_ok (i := 2) (by decide) br) ?_
    walk_at "d"
    refine e_if (fun h2 => ?_) (fun h2 => ?_)
    · have q : Gd (.int (if 2 * (n % d) = d then n / d + n / d % 2 else if 2 * (n % d) > d then n / d + 1 else n / d)) μ := q
      rw [if_pos h2] at q
      walk_at "d"
      refine e_ifF ha ?_
      walk_at "d"
      exact q
    · have q : Gd (.int (if 2 * (n % d) = d then n / d + n / d % 2 else if 2 * (n % d) > d then n / d + 1 else n / d)) μ := q
      rw [if_neg h2] at q
      walk_at "d"
      refine e_mulI (mul_ok (i := 2) (by decide) br) ?_
      walk_at "d"
      refine e_if (fun h3 => ?_) (fun h3 => ?_)
      · rw [if_pos h3] at q
        walk_at "d"
        exact q
      · rw [if_neg h3] at q
        walk_at "d"
        exact q
def F_greatest_read : DSp := fun ds μ Gd => ∃ (P : Nat) (lo hi : Int) (w : Way), ds = [fm P lo hi, .str w.s] ∧ okf P lo hi ∧ Gd (.int (greatF P lo hi w)) μ
-- greatest_read: slots 0=form 1=way 2=beyond; level 2; calls count_of
def t_greatest_read : DTS :=
  dSeq (dAsg (dCall F_count_of (dCons (dVar 0) (dNil))) (dgName 2)) (dSeq (dIfS (dTest (dOp dEq (dVar 1) (dC (.str (PySem.Str.ofString "zero"))))) (dRet (dOp dSub (dVar 2) (dC (.int 1)))) (dNext)) (dSeq (dIfS (dTest (dOp dEq (dVar 1) (dC (.str (PySem.Str.ofString "odd"))))) (dRet (dOp dOr (dOp dSub (dVar 2) (dC (.int 1))) (dC (.int 1)))) (dNext)) (dRet (dVar 2))))
theorem cnt_greatest_read : ∀ ds μ Gd, F_greatest_read ds μ Gd → ds.length = 2 := by
  rintro ds μ Gd ⟨a, b, c, d, rfl, _⟩; rfl
theorem ok_greatest_read : ∀ ds μ Gd, F_greatest_read ds μ Gd → t_greatest_read { nx := fun _ μ' => Gd .non μ', rt := Gd } (startD 3 ds) μ := by
  rintro ds μ Gd ⟨P, lo, hi, w, rfl, o, q⟩
  show t_greatest_read _ [some (fm P lo hi), some (.str w.s), none] _
  unfold t_greatest_read
  have hz := w_zero w
  have hd := w_odd w
  generalize w.s = z at *
  walk_at "d"
  refine ⟨P, lo, hi, rfl, o, ?_⟩
  walk_at "d"
  cases w with
  | zero =>
    refine e_ifT hz ?_
    walk_at "d"
    exact q
  | odd =>
    refine e_ifF hz ?_
    walk_at "d"
    refine e_ifT hd ?_
    walk_at "d"
    refine orI ?_
    rw [or_one]
    exact q
  | even =>
    refine e_ifF hz ?_
    walk_at "d"
    refine e_ifF hd ?_
    walk_at "d"
    exact q
  | away =>
    refine e_ifF hz ?_
    walk_at "d"
    refine e_ifF hd ?_
    walk_at "d"
    exact q
  | out =>
    refine e_ifF hz ?_
    walk_at "d"
    refine e_ifF hd ?_
    walk_at "d"
    exact q
def F_read_fraction : DSp := fun ds μ Gd => ∃ (P : Nat) (lo hi num den : Int) (w : Way), ds = [fm P lo hi, .str w.s, .int num, .int den] ∧ okf P lo hi ∧ okq num den ∧ Gd (.int (readF P lo hi w num den)) μ
-- read_fraction: slots 0=form 1=way 2=num 3=den 4=n 5=d; level 4; calls greatest_read, rough_position, rounded_by
def t_read_fraction : DTS :=
  dSeq (dAsg (dCall F_rough_position (dCons (dVar 0) (dCons (dVar 2) (dCons (dVar 3) (dNil))))) (dgSeq 2 (dgCons (dgName 4) (dgCons (dgName 5) (dgNil))))) (dRet (dCB dMin2 (dCons (dCall F_rounded_by (dCons (dVar 1) (dCons (dVar 4) (dCons (dVar 5) (dNil))))) (dCons (dCall F_greatest_read (dCons (dVar 0) (dCons (dVar 1) (dNil)))) (dNil)))))
theorem cnt_read_fraction : ∀ ds μ Gd, F_read_fraction ds μ Gd → ds.length = 4 := by
  rintro ds μ Gd ⟨a, b, c, d, e, f, rfl, _⟩; rfl
theorem ok_read_fraction : ∀ ds μ Gd, F_read_fraction ds μ Gd → t_read_fraction { nx := fun _ μ' => Gd .non μ', rt := Gd } (startD 6 ds) μ := by
  rintro ds μ Gd ⟨P, lo, hi, num, den, w, rfl, o, k, q⟩
  show t_read_fraction _ [some (fm P lo hi), some (.str w.s), some (.int num), some (.int den), none, none] _
  unfold t_read_fraction
  unfold readF at q
  walk_at "d"
  refine ⟨P, lo, hi, num, den, rfl, o, k, ?_⟩
  walk_at "d"
  refine ⟨w, _, _, rfl, posD_pos k.2.1, bd_up (bd_posD o k) (by decide), ?_⟩
  walk_at "d"
  refine ⟨P, lo, hi, w, rfl, o, ?_⟩
  walk_at "d"
  exact q
/-! ### what is read -/
theorem count_two {P : Nat} {lo hi : Int} (o : lo ≤ hi) : 2 ^ (P + 1) ≤ countF P lo hi := by
  have : 2 * 2 ^ P ≤ (hi - lo + 2) * 2 ^ P := Int.mul_le_mul_of_nonneg_right (by omega) (Int.le_of_lt (pow_pos' P))
  rw [pow_s]; exact this
theorem count_ge {P : Nat} {lo hi : Int} (o : lo ≤ hi) : 2 ≤ countF P lo hi := by
  have := count_two (P := P) o
  have h := two_pos P
  rw [pow_s] at this
  omega
/-- c is the lower neighbour -/
def lowC (P : Nat) (lo hi num den : Int) : Int := if posN P lo hi num den / posD P lo hi num den < countF P lo hi - 1 then posN P lo hi num den / posD P lo hi num den else countF P lo hi - 1
def isE (P : Nat) (lo hi num den : Int) : Prop := posN P lo hi num den = lowC P lo hi num den * posD P lo hi num den ∧ ∀ w, readF P lo hi w num den = lowC P lo hi num den
def isR (P : Nat) (lo hi num den : Int) : Prop :=
  lowC P lo hi num den * posD P lo hi num den < posN P lo hi num den ∧ (posN P lo hi num den < (lowC P lo hi num den + 1) * posD P lo hi num den ∨ lowC P lo hi num den = countF P lo hi - 1) ∧
  readF P lo hi .zero num den = lowC P lo hi num den ∧ readF P lo hi .out num den = lowC P lo hi num den + 1 ∧ readF P lo hi .odd num den = lowC P lo hi num den + 1 - lowC P lo hi num den % 2 ∧
  readF P lo hi .even num den = (if 2 * posN P lo hi num den < (2 * lowC P lo hi num den + 1) * posD P lo hi num den then lowC P lo hi num den else if 2 * posN P lo hi num den = (2 * lowC P lo hi num den + 1) * posD P lo hi num den then lowC P lo hi num den + lowC P lo hi num den % 2 else lowC P lo hi num den + 1) ∧
  readF P lo hi .away num den = (if 2 * posN P lo hi num den < (2 * lowC P lo hi num den + 1) * posD P lo hi num den then lowC P lo hi num den else lowC P lo hi num den + 1)
theorem lowC_in {P : Nat} {lo hi num den : Int} (hlh : lo ≤ hi) (n0 : 0 ≤ num) (d0 : 0 < den) : 0 ≤ lowC P lo hi num den ∧ lowC P lo hi num den < countF P lo hi := by
  have h1 := Int.ediv_nonneg (posN_nn (P := P) hlh n0 d0) (Int.le_of_lt (posD_pos (P := P) (lo := lo) (hi := hi) (num := num) d0))
  have h2 := count_ge (P := P) hlh
  unfold lowC
  split <;> omega
theorem read_char {P : Nat} {lo hi num den : Int} (hlh : lo ≤ hi) (n0 : 0 ≤ num) (d0 : 0 < den) : isE P lo hi num den ∨ isR P lo hi num den := by
  have hd := posD_pos (P := P) (lo := lo) (hi := hi) (num := num) d0
  have hn := posN_nn (P := P) (lo := lo) (hi := hi) hlh n0 d0
  have hc := count_ge (P := P) hlh
  have h1 := Int.ediv_nonneg hn (Int.le_of_lt hd)
  have dm := Int.mul_ediv_add_emod (posN P lo hi num den) (posD P lo hi num den)
  have r0 := Int.emod_nonneg (posN P lo hi num den) (show posD P lo hi num den ≠ 0 by omega)
  have r1 := Int.emod_lt_of_pos (posN P lo hi num den) hd
  unfold isE isR lowC readF greatF wayF
  generalize posN P lo hi num den = n at *
  generalize posD P lo hi num den = d at *
  generalize countF P lo hi = N at *
  rw [Int.mul_comm] at dm
  have e1 : ∀ x : Int, (2 * x + 1) * d = 2 * (x * d) + d := fun x => by rw [Int.add_mul, Int.one_mul, Int.mul_assoc]
  by_cases hx : n / d < N - 1
  · rw [if_pos hx]
    by_cases hr : n % d = 0
    · refine .inl ⟨by omega, fun w => ?_⟩
      rw [if_pos hr]
      cases w <;> dsimp only <;> split <;> omega
    · refine .inr ⟨by omega, .inl (by rw [Int.add_mul, Int.one_mul]; omega), ?_⟩
      rw [if_neg hr, if_neg hr, if_neg hr, if_neg hr, if_neg hr, e1]
      generalize n / d * d = z at *
      generalize n / d = f at *
      refine ⟨?_, ?_, ?_, ?_, ?_⟩
      · dsimp only; split <;> omega
      · dsimp only; split <;> omega
      · dsimp only; split <;> omega
      · dsimp only
        repeat' split
        all_goals omega
      · dsimp only
        repeat' split
        all_goals omega
  · rw [if_neg hx]
    have hz : (N - 1) * d ≤ n / d * d := Int.mul_le_mul_of_nonneg_right (by omega) (Int.le_of_lt hd)
    by_cases hr : n % d = 0
    · by_cases hf : n / d = N - 1
      · refine .inl ⟨by rw [← hf]; omega, fun w => ?_⟩
        rw [if_pos hr]
        cases w <;> dsimp only <;> split <;> omega
      · have hz2 : N * d ≤ n / d * d := Int.mul_le_mul_of_nonneg_right (by omega) (Int.le_of_lt hd)
        refine .inr ⟨by rw [Int.sub_mul, Int.one_mul]; omega, .inr rfl, ?_⟩
        rw [if_pos hr, if_pos hr, if_pos hr, if_pos hr, if_pos hr, e1, Int.sub_mul, Int.one_mul]
        generalize n / d * d = z at *
        generalize n / d = f at *
        generalize N * d = y at *
        refine ⟨?_, ?_, ?_, ?_, ?_⟩
        · dsimp only; split <;> omega
        · dsimp only; split <;> omega
        · dsimp only; split <;> omega
        · dsimp only
          repeat' split
          all_goals omega
        · dsimp only
          repeat' split
          all_goals omega
    · refine .inr ⟨by omega, .inr rfl, ?_⟩
      rw [if_neg hr, if_neg hr, if_neg hr, if_neg hr, if_neg hr, e1]
      have hcase : n / d = N - 1 ∨ (N - 1) * d + d ≤ n / d * d := by
        by_cases hf : n / d = N - 1
        · exact .inl hf
        · refine .inr ?_
          have : N * d ≤ n / d * d := Int.mul_le_mul_of_nonneg_right (by omega) (Int.le_of_lt hd)
          rw [Int.sub_mul, Int.one_mul]; omega
      have hcase2 : n / d = N - 1 → n / d * d = (N - 1) * d := fun h => by rw [h]
      generalize (N - 1) * d = y at *
      generalize n / d * d = z at *
      generalize n / d = f at *
      refine ⟨?_, ?_, ?_, ?_, ?_⟩
      · dsimp only; split <;> omega
      · dsimp only; split <;> omega
      · dsimp only; split <;> omega
      · dsimp only
        repeat' split
        all_goals omega
      · dsimp only
        repeat' split
        all_goals omega
theorem low_le {P : Nat} {lo hi num den : Int} (hlh : lo ≤ hi) (n0 : 0 ≤ num) (d0 : 0 < den) : lowC P lo hi num den * posD P lo hi num den ≤ posN P lo hi num den := by
  rcases read_char (P := P) hlh n0 d0 with h | h
  · have := h.1; omega
  · have := h.1; omega
theorem low_ge {P : Nat} {lo hi num den c : Int} (d0 : 0 < den) (hc : c < countF P lo hi) (h : c * posD P lo hi num den ≤ posN P lo hi num den) : c ≤ lowC P lo hi num den := by
  have h1 : c ≤ posN P lo hi num den / posD P lo hi num den := (Int.le_ediv_iff_mul_le (posD_pos d0)).mpr h
  unfold lowC
  split <;> omega
theorem read_in {P : Nat} {lo hi num den : Int} (hlh : lo ≤ hi) (n0 : 0 ≤ num) (d0 : 0 < den) (w : Way) : lowC P lo hi num den ≤ readF P lo hi w num den ∧ readF P lo hi w num den ≤ lowC P lo hi num den + 1 := by
  rcases read_char (P := P) hlh n0 d0 with h | h
  · have := h.2 w; omega
  · obtain ⟨_, _, h1, h2, h3, h4, h5⟩ := h
    have := Int.emod_two_eq (lowC P lo hi num den)
    cases w with
    | zero => omega
    | out => omega
    | odd => omega
    | even =>
      rw [h4]
      repeat' split
      all_goals omega
    | away => rw [h5]; split <;> omega
theorem thr_up {num den num' den' K u v : Int} (d0 : 0 < den) (u0 : 0 < u) (v0 : 0 < v) (d0' : 0 < den') (h : num * den' ≤ num' * den) (k : K * (den * u) ≤ 2 * (num * v)) : K * (den' * u) ≤ 2 * (num' * v) := by
  refine Int.le_of_mul_le_mul_right (a := den) ?_ d0
  have h1 := Int.mul_le_mul_of_nonneg_right k (Int.le_of_lt d0')
  have h2 := Int.mul_le_mul_of_nonneg_right h (Int.le_of_lt v0)
  have e1 : K * (den' * u) * den = K * (den * u) * den' := by simp only [Int.mul_assoc, Int.mul_comm, Int.mul_left_comm]
  have e2 : 2 * (num * v) * den' = 2 * (num * den' * v) := by simp only [Int.mul_assoc, Int.mul_comm, Int.mul_left_comm]
  have e3 : 2 * (num' * v) * den = 2 * (num' * den * v) := by simp only [Int.mul_assoc, Int.mul_comm, Int.mul_left_comm]
  omega
theorem thr_dn {num den num' den' K u v : Int} (d0 : 0 < den) (u0 : 0 < u) (v0 : 0 < v) (d0' : 0 < den') (h : num * den' ≤ num' * den) (k : 2 * (num' * v) ≤ K * (den' * u)) : 2 * (num * v) ≤ K * (den * u) := by
  refine Int.le_of_mul_le_mul_right (a := den') ?_ d0'
  have h1 := Int.mul_le_mul_of_nonneg_right k (Int.le_of_lt d0)
  have h2 := Int.mul_le_mul_of_nonneg_right h (Int.le_of_lt v0)
  have e1 : K * (den' * u) * den = K * (den * u) * den' := by simp only [Int.mul_assoc, Int.mul_comm, Int.mul_left_comm]
  have e2 : 2 * (num * v) * den' = 2 * (num * den' * v) := by simp only [Int.mul_assoc, Int.mul_comm, Int.mul_left_comm]
  have e3 : 2 * (num' * v) * den = 2 * (num' * den * v) := by simp only [Int.mul_assoc, Int.mul_comm, Int.mul_left_comm]
  omega
/-- a code's own place, and halfway to the next -/
theorem code_key {P : Nat} {lo hi num den c t : Int} (hlh : lo ≤ hi) (n0 : 0 ≤ num) (d0 : 0 < den) (c0 : 0 ≤ c) (c1 : c < countF P lo hi) (t0 : 0 ≤ t) (t1 : t ≤ 2) :
    ((2 * c + t) * posD P lo hi num den ≤ 2 * posN P lo hi num den ↔ (2 * partM P c + t) * (den * 2 ^ (partE P lo c).toNat) ≤ 2 * (num * 2 ^ (-partE P lo c).toNat)) ∧
    (2 * posN P lo hi num den ≤ (2 * c + t) * posD P lo hi num den ↔ 2 * (num * 2 ^ (-partE P lo c).toNat) ≤ (2 * partM P c + t) * (den * 2 ^ (partE P lo c).toNat)) := by
  obtain ⟨hcan, hsum⟩ := part_can (P := P) (lo := lo) hlh c0 c1
  have := pos_key (num := num) (den := den) hlh n0 d0 hcan t0 t1
  rw [hsum] at this
  exact this
theorem pos_up {P : Nat} {lo hi num den num' den' c t : Int} (hlh : lo ≤ hi) (n0 : 0 ≤ num) (d0 : 0 < den) (n0' : 0 ≤ num') (d0' : 0 < den') (h : num * den' ≤ num' * den) (c0 : 0 ≤ c) (c1 : c < countF P lo hi) (t0 : 0 ≤ t) (t1 : t ≤ 2) (k : (2 * c + t) * posD P lo hi num den ≤ 2 * posN P lo hi num den) : (2 * c + t) * posD P lo hi num' den' ≤ 2 * posN P lo hi num' den' :=
  (code_key hlh n0' d0' c0 c1 t0 t1).1.mpr (thr_up d0 (two_pos _) (two_pos _) d0' h ((code_key hlh n0 d0 c0 c1 t0 t1).1.mp k))
theorem pos_dn {P : Nat} {lo hi num den num' den' c t : Int} (hlh : lo ≤ hi) (n0 : 0 ≤ num) (d0 : 0 < den) (n0' : 0 ≤ num') (d0' : 0 < den') (h : num * den' ≤ num' * den) (c0 : 0 ≤ c) (c1 : c < countF P lo hi) (t0 : 0 ≤ t) (t1 : t ≤ 2) (k : 2 * posN P lo hi num' den' ≤ (2 * c + t) * posD P lo hi num' den') : 2 * posN P lo hi num den ≤ (2 * c + t) * posD P lo hi num den :=
  (code_key hlh n0 d0 c0 c1 t0 t1).2.mpr (thr_dn d0 (two_pos _) (two_pos _) d0' h ((code_key hlh n0' d0' c0 c1 t0 t1).2.mp k))
theorem read_mono {P : Nat} {lo hi num den num' den' : Int} (w : Way) (hlh : lo ≤ hi) (n0 : 0 ≤ num) (d0 : 0 < den) (n0' : 0 ≤ num') (d0' : 0 < den') (h : num * den' ≤ num' * den) : readF P lo hi w num den ≤ readF P lo hi w num' den' := by
  obtain ⟨c0, c1⟩ := lowC_in (P := P) hlh n0 d0
  obtain ⟨c0', c1'⟩ := lowC_in (P := P) hlh n0' d0'
  have l1 := low_le (P := P) hlh n0 d0
  have u0 := pos_up (t := 0) hlh n0 d0 n0' d0' h c0 c1 (by decide) (by decide) (by rw [Int.add_zero, Int.mul_assoc]; omega)
  rw [Int.add_zero, Int.mul_assoc] at u0
  have hc := low_ge (P := P) d0' c1 (show lowC P lo hi num den * posD P lo hi num' den' ≤ _ by omega)
  obtain ⟨r1, r2⟩ := read_in (P := P) hlh n0 d0 w
  obtain ⟨r1', r2'⟩ := read_in (P := P) hlh n0' d0' w
  by_cases hlt : lowC P lo hi num den < lowC P lo hi num' den'
  · omega
  have he : lowC P lo hi num' den' = lowC P lo hi num den := by omega
  have up := pos_up (t := 1) hlh n0 d0 n0' d0' h c0 c1 (by decide) (by decide)
  have dn := pos_dn (t := 1) hlh n0 d0 n0' d0' h c0 c1 (by decide) (by decide)
  have dn0 := pos_dn (t := 0) hlh n0 d0 n0' d0' h c0 c1 (by decide) (by decide)
  rw [Int.add_zero, Int.mul_assoc, Int.mul_assoc] at dn0
  rcases read_char (P := P) hlh n0 d0 with ha | ha
  · have := ha.2 w; omega
  rcases read_char (P := P) hlh n0' d0' with hb | hb
  · have h1 := hb.1
    have h2 := ha.1
    rw [he] at h1
    have := dn0 (by omega)
    omega
  obtain ⟨_, _, h1, h2, h3, h4, h5⟩ := ha
  obtain ⟨_, _, h1', h2', h3', h4', h5'⟩ := hb
  rw [he] at h1' h2' h3' h4' h5'
  have := Int.emod_two_eq (lowC P lo hi num den)
  cases w with
  | zero => omega
  | out => omega
  | odd => omega
  | even =>
    rw [h4, h4']
    generalize (2 * lowC P lo hi num den + 1) * posD P lo hi num den = x at *
    generalize (2 * lowC P lo hi num den + 1) * posD P lo hi num' den' = y at *
    repeat' split
    all_goals omega
  | away =>
    rw [h5, h5']
    generalize (2 * lowC P lo hi num den + 1) * posD P lo hi num den = x at *
    generalize (2 * lowC P lo hi num den + 1) * posD P lo hi num' den' = y at *
    repeat' split
    all_goals omega
theorem read_same {P : Nat} {lo hi num den num' den' : Int} (w : Way) (hlh : lo ≤ hi) (n0 : 0 ≤ num) (d0 : 0 < den) (n0' : 0 ≤ num') (d0' : 0 < den') (h : num * den' = num' * den) : readF P lo hi w num den = readF P lo hi w num' den' :=
  Int.le_antisymm (read_mono w hlh n0 d0 n0' d0' (Int.le_of_eq h)) (read_mono w hlh n0' d0' n0 d0 (Int.le_of_eq h.symm))
def dc (d q : Int) : D := .tup [.int d, .int q]
def okd (d q : Int) : Prop := 0 ≤ d ∧ Bd 10000 d ∧ -1700 ≤ q ∧ q ≤ 2400
def fN (d q : Int) : Int := d * 10 ^ q.toNat
def fD (q : Int) : Int := 10 ^ (-q).toNat
theorem okq_dec {d q : Int} (o : okd d q) : okq (fN d q) (fD q) := by
  obtain ⟨d0, bd, q0, q1⟩ := o
  refine ⟨Int.mul_nonneg d0 (Int.le_of_lt (pow10_pos _)), pow10_pos _, bd_up (bd_mul bd (bd_up (l := 9601) (pow10_bd _) (by omega))) (by decide), bd_up (pow10_bd _) (by omega)⟩
def F_read : DSp := fun ds μ Gd => ∃ (P : Nat) (lo hi d q : Int) (w : Way), ds = [fm P lo hi, .str w.s, dc d q] ∧ okf P lo hi ∧ okd d q ∧ Gd (.int (readF P lo hi w (fN d q) (fD q))) μ
-- read: slots 0=form 1=way 2=decimal 3=num 4=den; level 5; calls fraction_of, read_fraction
def t_read : DTS :=
  dSeq (dAsg (dCall F_fraction_of (dCons (dVar 2) (dNil))) (dgSeq 2 (dgCons (dgName 3) (dgCons (dgName 4) (dgNil))))) (dRet (dCall F_read_fraction (dCons (dVar 0) (dCons (dVar 1) (dCons (dVar 3) (dCons (dVar 4) (dNil)))))))
theorem cnt_read : ∀ ds μ Gd, F_read ds μ Gd → ds.length = 3 := by
  rintro ds μ Gd ⟨a, b, c, d, e, f, rfl, _⟩; rfl
theorem ok_read : ∀ ds μ Gd, F_read ds μ Gd → t_read { nx := fun _ μ' => Gd .non μ', rt := Gd } (startD 5 ds) μ := by
  rintro ds μ Gd ⟨P, lo, hi, d, q, w, rfl, o, k, qq⟩
  show t_read _ [some (fm P lo hi), some (.str w.s), some (dc d q), none, none] _
  unfold t_read
  walk_at "d"
  refine ⟨d, q, rfl, bd_up k.2.1 (by decide), by have := k.2.2; omega, by have := k.2.2; omega, ?_⟩
  walk_at "d"
  refine ⟨P, lo, hi, _, _, w, rfl, o, okq_dec k, ?_⟩
  walk_at "d"
  exact qq
def decD (m e : Int) : Int := m * 2 ^ e.toNat * 5 ^ (-e).toNat
def decQ (e : Int) : Int := if e ≥ 0 then 0 else e
theorem ten_pow (k : Nat) : (10 : Int) ^ k = 2 ^ k * 5 ^ k := by rw [← Int.mul_pow]; rfl
theorem five_pos (k : Nat) : (0 : Int) < 5 ^ k := Int.pow_pos (by decide)
/-- comparing with m * 2 ** e -/
theorem cmp_dec (d q m e : Int) : ((fN d q * fD (decQ e) = fN (decD m e) (decQ e) * fD q) ↔ fN d q * 2 ^ (-e).toNat = m * (fD q * 2 ^ e.toNat)) ∧ ((fN d q * fD (decQ e) < fN (decD m e) (decQ e) * fD q) ↔ fN d q * 2 ^ (-e).toNat < m * (fD q * 2 ^ e.toNat)) := by
  have hq : fN (decD m e) (decQ e) = decD m e := by
    unfold fN decQ
    split
    · exact Int.mul_one _
    · rw [show e.toNat = 0 by omega]; exact Int.mul_one _
  have hD : fD (decQ e) = 2 ^ (-e).toNat * 5 ^ (-e).toNat := by
    unfold fD decQ
    split
    · rw [show (-e).toNat = 0 by omega]; rfl
    · rw [ten_pow]
  have h5 := five_pos (-e).toNat
  rw [hq, hD]
  unfold decD
  have e1 : fN d q * (2 ^ (-e).toNat * 5 ^ (-e).toNat) = fN d q * 2 ^ (-e).toNat * 5 ^ (-e).toNat := (Int.mul_assoc _ _ _).symm
  have e2 : m * 2 ^ e.toNat * 5 ^ (-e).toNat * fD q = m * (fD q * 2 ^ e.toNat) * 5 ^ (-e).toNat := by simp only [Int.mul_assoc, Int.mul_comm, Int.mul_left_comm]
  rw [e1, e2]
  refine ⟨⟨fun h => Int.eq_of_mul_eq_mul_right (by omega) h, fun h => by rw [h]⟩, ⟨fun h => Int.lt_of_mul_lt_mul_right h (by omega), fun h => Int.mul_lt_mul_of_pos_right h h5⟩⟩
/-- halfway: 2 * m + 1 at the exponent below -/
theorem half_key (num den M E : Int) : (num * 2 ^ (-(E - 1)).toNat = (2 * M + 1) * (den * 2 ^ (E - 1).toNat) ↔ 2 * (num * 2 ^ (-E).toNat) = (2 * M + 1) * (den * 2 ^ E.toNat)) ∧ (num * 2 ^ (-(E - 1)).toNat < (2 * M + 1) * (den * 2 ^ (E - 1).toNat) ↔ 2 * (num * 2 ^ (-E).toNat) < (2 * M + 1) * (den * 2 ^ E.toNat)) := by
  by_cases h : 1 ≤ E
  · rw [show (-(E - 1)).toNat = 0 by omega, show (-E).toNat = 0 by omega, show E.toNat = (E - 1).toNat + 1 by omega, ← two_up, Int.mul_left_comm _ 2, Int.pow_zero, Int.mul_one]
    omega
  · rw [show (E - 1).toNat = 0 by omega, show E.toNat = 0 by omega, show (-(E - 1)).toNat = (-E).toNat + 1 by omega, ← two_up]
    omega
theorem fN_10 (d q : Int) : fN (10 * d) (q - 1) * fD q = fN d q * fD (q - 1) := by
  unfold fN fD
  by_cases h : 1 ≤ q
  · rw [show (-q).toNat = 0 by omega, show (-(q - 1)).toNat = 0 by omega, show q.toNat = (q - 1).toNat + 1 by omega, Int.pow_succ, Int.pow_zero, Int.mul_one, Int.mul_one]
    simp only [Int.mul_assoc, Int.mul_comm, Int.mul_left_comm]
  · rw [show q.toNat = 0 by omega, show (q - 1).toNat = 0 by omega, show (-(q - 1)).toNat = (-q).toNat + 1 by omega, Int.pow_succ, Int.pow_zero, Int.mul_one, Int.mul_one]
    simp only [Int.mul_assoc, Int.mul_comm, Int.mul_left_comm]
/-! ### powers of two moved from one side to the other -/
theorem pow_shift {A B : Int} {x y x' y' : Nat} (h : x + y' = x' + y) : A * 2 ^ x ≤ B * 2 ^ y ↔ A * 2 ^ x' ≤ B * 2 ^ y' := by
  rw [← pow_cancel x y y', ← pow_cancel x' y' y, h, Nat.add_comm y y']
theorem thr_form (num den K : Int) (G : Int) {x y : Nat} (h : (x : Int) - y = G) : (K * (den * 2 ^ G.toNat) ≤ num * 2 ^ (-G).toNat ↔ K * den * 2 ^ x ≤ num * 2 ^ y) ∧ (num * 2 ^ (-G).toNat ≤ K * (den * 2 ^ G.toNat) ↔ num * 2 ^ y ≤ K * den * 2 ^ x) := by
  rw [← Int.mul_assoc]
  exact ⟨pow_shift (by omega), pow_shift (by omega)⟩
theorem two_mul_pow (a : Int) (k : Nat) : 2 * (a * 2 ^ k) = a * 2 ^ (k + 1) := two_up a k
/-- the threshold (2 * M + t) * 2 ** (E - 1), in the form of code_key -/
theorem key_form (num den K E : Int) {x y : Nat} (h : (x : Int) - y = E - 1) : (K * (den * 2 ^ E.toNat) ≤ 2 * (num * 2 ^ (-E).toNat) ↔ K * den * 2 ^ x ≤ num * 2 ^ y) ∧ (2 * (num * 2 ^ (-E).toNat) ≤ K * (den * 2 ^ E.toNat) ↔ num * 2 ^ y ≤ K * den * 2 ^ x) := by
  rw [← Int.mul_assoc, two_up]
  exact ⟨pow_shift (by omega), pow_shift (by omega)⟩
theorem key_up (a den : Int) (j x : Nat) : a * 2 ^ j * den * 2 ^ x = a * den * 2 ^ (j + x) := by rw [Int.pow_add]; simp only [Int.mul_assoc, Int.mul_comm, Int.mul_left_comm]
/-- beside m * 2 ** e, by one at the next digit -/
theorem near_ten (m e s : Int) (hs : s = 1 ∨ s = -1) : ∃ x y : Nat, (x : Int) - y = e - 1 ∧
    ∀ K : Int, (K * fD (decQ e - 1) * 2 ^ x ≤ fN (10 * decD m e + s) (decQ e - 1) * 2 ^ y ↔ (K ≤ 2 * m - 1 ∨ (K = 2 * m ∧ s = 1))) := by
  unfold decD decQ
  by_cases h : e ≥ 0
  · rw [if_pos h]
    refine ⟨e.toNat, 1, by omega, fun K => ?_⟩
    have e1 : fN (10 * (m * 2 ^ e.toNat * 5 ^ (-e).toNat) + s) (0 - 1) = 10 * (m * 2 ^ e.toNat) + s := by
      unfold fN
      rw [show ((0 : Int) - 1).toNat = 0 by decide, show (-e).toNat = 0 by omega, Int.pow_zero, Int.mul_one, Int.pow_zero, Int.mul_one]
    have e2 : fD (0 - 1) = 10 := by unfold fD; decide
    rw [e1, e2]
    have hp := two_pos e.toNat
    have e3 : K * 10 * 2 ^ e.toNat = 10 * (K * 2 ^ e.toNat) := by rw [Int.mul_comm K 10, Int.mul_assoc]
    have e4 : (10 * (m * 2 ^ e.toNat) + s) * 2 ^ 1 = 10 * (2 * m * 2 ^ e.toNat) + 2 * s := by rw [Int.mul_assoc 2 m]; omega
    rw [e3, e4]
    by_cases hK : K ≤ 2 * m - 1
    · have := Int.mul_le_mul_of_nonneg_right hK (Int.le_of_lt hp)
      rw [Int.sub_mul, Int.one_mul] at this
      exact ⟨fun _ => .inl hK, fun _ => by omega⟩
    · by_cases hK2 : K = 2 * m
      · subst hK2
        exact ⟨fun h => .inr ⟨rfl, by omega⟩, fun h => by omega⟩
      · have := Int.mul_le_mul_of_nonneg_right (show 2 * m + 1 ≤ K by omega) (Int.le_of_lt hp)
        rw [Int.add_mul, Int.one_mul] at this
        exact ⟨fun h => by omega, fun h => by omega⟩
  · rw [if_neg h]
    refine ⟨0, (-e).toNat + 1, by omega, fun K => ?_⟩
    have e1 : fN (10 * (m * 2 ^ e.toNat * 5 ^ (-e).toNat) + s) (e - 1) = 10 * (m * 5 ^ (-e).toNat) + s := by
      unfold fN
      rw [show (e - 1).toNat = 0 by omega, show e.toNat = 0 by omega, Int.pow_zero, Int.mul_one, Int.pow_zero, Int.mul_one]
    have e2 : fD (e - 1) = 5 * 5 ^ (-e).toNat * 2 ^ ((-e).toNat + 1) := by
      unfold fD
      rw [show (-(e - 1)).toNat = (-e).toNat + 1 by omega, ten_pow, Int.pow_succ 5, Int.mul_comm (5 ^ (-e).toNat) 5, Int.mul_comm]
    rw [e1, e2, Int.pow_zero, Int.mul_one, ← Int.mul_assoc K]
    have hp := five_pos (-e).toNat
    have e3 : K * (5 * 5 ^ (-e).toNat) = 5 * (K * 5 ^ (-e).toNat) := Int.mul_left_comm _ _ _
    have red : K * (5 * 5 ^ (-e).toNat) * 2 ^ ((-e).toNat + 1) ≤ (10 * (m * 5 ^ (-e).toNat) + s) * 2 ^ ((-e).toNat + 1) ↔ 5 * (K * 5 ^ (-e).toNat) ≤ 5 * (2 * m * 5 ^ (-e).toNat) + s := by
      rw [e3, show 10 * (m * 5 ^ (-e).toNat) = 5 * (2 * m * 5 ^ (-e).toNat) by rw [Int.mul_assoc 2 m]; omega]
      exact ⟨fun h => Int.le_of_mul_le_mul_right h (two_pos _), fun h => Int.mul_le_mul_of_nonneg_right h (Int.le_of_lt (two_pos _))⟩
    rw [red]
    by_cases hK : K ≤ 2 * m - 1
    · have := Int.mul_le_mul_of_nonneg_right hK (Int.le_of_lt hp)
      rw [Int.sub_mul, Int.one_mul] at this
      exact ⟨fun _ => .inl hK, fun _ => by omega⟩
    · by_cases hK2 : K = 2 * m
      · subst hK2
        exact ⟨fun h => .inr ⟨rfl, by omega⟩, fun h => by omega⟩
      · have := Int.mul_le_mul_of_nonneg_right (show 2 * m + 1 ≤ K by omega) (Int.le_of_lt hp)
        rw [Int.add_mul, Int.one_mul] at this
        exact ⟨fun h => by omega, fun h => by omega⟩
/-- a threshold at another exponent -/
theorem thr_at {A D K : Int} {x y x' y' j : Nat} (h : (x : Int) - y = x' - y' + j) : K * D * 2 ^ x ≤ A * 2 ^ y ↔ K * 2 ^ j * D * 2 ^ x' ≤ A * 2 ^ y' := by
  rw [key_up]
  exact pow_shift (by omega)
theorem low_zero {P : Nat} {lo hi den : Int} (hlh : lo ≤ hi) (d0 : 0 < den) : lowC P lo hi 0 den = 0 := by
  have h : posN P lo hi 0 den = 0 := by
    unfold posN expF
    rw [if_pos rfl, Int.sub_self, Int.zero_mul, Int.zero_mul, Int.zero_mul, Int.add_zero]
  have hc := count_ge (P := P) hlh
  unfold lowC
  rw [h, Int.zero_ediv, if_pos (by omega)]
theorem low_lt {P : Nat} {lo hi num den : Int} (d0 : 0 < den) (h : lowC P lo hi num den < countF P lo hi - 1) : posN P lo hi num den < (lowC P lo hi num den + 1) * posD P lo hi num den := by
  have hd := posD_pos (P := P) (lo := lo) (hi := hi) (num := num) d0
  have dm := Int.mul_ediv_add_emod (posN P lo hi num den) (posD P lo hi num den)
  have r1 := Int.emod_lt_of_pos (posN P lo hi num den) hd
  unfold lowC at h ⊢
  by_cases z : posN P lo hi num den / posD P lo hi num den < countF P lo hi - 1
  · rw [if_pos z] at h ⊢
    rw [Int.add_mul, Int.one_mul, Int.mul_comm]
    omega
  · rw [if_neg z] at h; omega
theorem low_eq {P : Nat} {lo hi num den c : Int} (d0 : 0 < den) (c1 : c < countF P lo hi) (h1 : c * posD P lo hi num den ≤ posN P lo hi num den) (h2 : posN P lo hi num den < (c + 1) * posD P lo hi num den ∨ c = countF P lo hi - 1) : lowC P lo hi num den = c := by
  have a := low_ge d0 c1 h1
  rcases h2 with h2 | h2
  · have : posN P lo hi num den / posD P lo hi num den < c + 1 := Int.ediv_lt_of_lt_mul (posD_pos d0) h2
    unfold lowC at a ⊢
    split at a <;> rename_i z
    · rw [if_pos z]; omega
    · rw [if_neg z]; omega
  · unfold lowC at a ⊢
    split at a <;> rename_i z
    · rw [if_pos z]; omega
    · rw [if_neg z]; omega
theorem low_read {P : Nat} {lo hi num den : Int} (hlh : lo ≤ hi) (n0 : 0 ≤ num) (d0 : 0 < den) : readF P lo hi .zero num den = lowC P lo hi num den := by
  rcases read_char (P := P) hlh n0 d0 with h | h
  · exact h.2 _
  · exact h.2.2.1
/-- the law looks beside this code -/
def byC (P : Nat) (lo hi c d q : Int) : Prop := d = 0 ∨ lowC P lo hi (fN d q) (fD q) = c ∨ (lowC P lo hi (fN d q) (fD q) = c - 1 ∧ 1 ≤ c)
theorem fD_pos (q : Int) : 0 < fD q := pow10_pos _
theorem fN_nn {d : Int} (q : Int) (h : 0 ≤ d) : 0 ≤ fN d q := Int.mul_nonneg h (Int.le_of_lt (pow10_pos _))
theorem by_val {P : Nat} {lo hi c : Int} (hlh : lo ≤ hi) (c0 : 0 ≤ c) (c1 : c < countF P lo hi) (m0 : 0 ≤ decD (partM P c) (partE P lo c)) : byC P lo hi c (decD (partM P c) (partE P lo c)) (decQ (partE P lo c)) := by
  refine .inr (.inl ?_)
  have h := (cmp_dec (decD (partM P c) (partE P lo c)) (decQ (partE P lo c)) (partM P c) (partE P lo c)).1.mp rfl
  have k := code_key (t := 0) hlh (fN_nn (decQ (partE P lo c)) m0) (fD_pos (decQ (partE P lo c))) c0 c1 (by decide) (by decide)
  rw [Int.add_zero, Int.mul_assoc, Int.add_zero, Int.mul_assoc] at k
  have k1 := k.1.mpr (by omega)
  have k2 := k.2.mpr (by omega)
  have hd := posD_pos (P := P) (lo := lo) (hi := hi) (num := fN (decD (partM P c) (partE P lo c)) (decQ (partE P lo c))) (fD_pos (decQ (partE P lo c)))
  exact low_eq (fD_pos _) c1 (by omega) (.inl (by rw [Int.add_mul, Int.one_mul]; omega))
theorem by_same {P : Nat} {lo hi c d q : Int} (hlh : lo ≤ hi) (d0 : 0 ≤ d) (h : byC P lo hi c d q) : byC P lo hi c (10 * d) (q - 1) := by
  have e : lowC P lo hi (fN (10 * d) (q - 1)) (fD (q - 1)) = lowC P lo hi (fN d q) (fD q) := by
    rw [← low_read hlh (fN_nn _ (by omega)) (fD_pos _), ← low_read hlh (fN_nn _ d0) (fD_pos _)]
    exact read_same .zero hlh (fN_nn _ (by omega)) (fD_pos _) (fN_nn _ d0) (fD_pos _) (fN_10 d q)
  unfold byC at h ⊢
  rw [e]
  rcases h with h | h
  · exact .inl (by omega)
  · exact .inr h
/-- a threshold t at code c, for the decimals beside m * 2 ** e: K * 2 ** (e - 1) = (2 M + t) * 2 ** (E - 1) -/
theorem beside_key {P : Nat} {lo hi M E t m e s : Int} {j : Nat} (hlh : lo ≤ hi) (hs : s = 1 ∨ s = -1) (hn : 0 ≤ 10 * decD m e + s) (c : can P lo hi M E) (t0 : 0 ≤ t) (t1 : t ≤ 2) (hj : E = e + j) :
    (2 * ((E - lo) * 2 ^ P + M) + t) * posD P lo hi (fN (10 * decD m e + s) (decQ e - 1)) (fD (decQ e - 1)) ≤ 2 * posN P lo hi (fN (10 * decD m e + s) (decQ e - 1)) (fD (decQ e - 1)) ↔ ((2 * M + t) * 2 ^ j ≤ 2 * m - 1 ∨ ((2 * M + t) * 2 ^ j = 2 * m ∧ s = 1)) := by
  obtain ⟨x, y, hxy, hK⟩ := near_ten m e s hs
  rw [(pos_key hlh (fN_nn _ hn) (fD_pos _) c t0 t1).1, ← hK]
  obtain ⟨x', y', h'⟩ : ∃ x' y' : Nat, (x' : Int) - y' = E - 1 := ⟨(E - 1).toNat, (-(E - 1)).toNat, by omega⟩
  rw [(key_form _ _ _ _ h').1]
  exact thr_at (by omega)
theorem shaped_ints (l : List Int) : (D.lst (l.map D.int)).ok := by
  have h1 : ∀ l : List Int, flats (l.map D.int) = true := fun l => by
    induction l with
    | nil => rfl
    | cons a l ih => simp only [List.map_cons, flats, ih]; rfl
  have h2 : ∀ l : List Int, PyData.canLayAll0 (pys (l.map D.int)) = true := fun l => by
    induction l with
    | nil => rfl
    | cons a l ih => simp only [List.map_cons, pys, D.py, PyData.canLayAll0, PyData.canLay0, ih]; rfl
  have h3 : ∀ l : List Int, PyData.depthAll (pys (l.map D.int)) = 0 := fun l => by
    induction l with
    | nil => rfl
    | cons a l ih => simp only [List.map_cons, pys, D.py, PyData.depthAll, PyData.depth, ih]; rfl
  refine ⟨by simp only [D.flat]; exact h1 l, ?_⟩
  unfold SeqAt.shaped
  simp only [D.py, PyData.canLay0, PyData.depth, h2, h3]
  decide
theorem eqv_ints (l m : List Int) : (D.lst (l.map D.int)).eqv (.lst (m.map D.int)) = decide (l = m) := by
  have : ∀ l m : List Int, PyData.eqvAll (pys (l.map D.int)) (pys (m.map D.int)) = decide (l = m) := fun l => by
    induction l with
    | nil => intro m; cases m <;> simp [pys, PyData.eqvAll]
    | cons a l ih =>
      intro m
      cases m with
      | nil => simp [pys, PyData.eqvAll]
      | cons b m => simp [pys, D.py, PyData.eqvAll, PyData.eqv, ih, Bool.beq_eq_decide_eq]
  show PyData.eqv (D.py (.lst _)) (D.py (.lst _)) = _
  simp only [D.py, PyData.eqv]
  exact this l m
/-! ### texts as lists of signs -/
def tx (l : List Nat) : Str := ⟨l.toArray⟩
theorem tx_len (l : List Nat) : (tx l).length = l.length := by
  show l.toArray.size = _
  rw [List.size_toArray]
theorem tx_app (a b : List Nat) : tx a ++ tx b = tx (a ++ b) := by
  show (⟨a.toArray ++ b.toArray⟩ : Str) = ⟨(a ++ b).toArray⟩
  rw [List.append_toArray]
theorem tx_get (l : List Nat) (i : Nat) : (tx l).cps[i]? = l[i]? := by
  show l.toArray[i]? = _
  rw [List.getElem?_toArray]
theorem tx_eq {a b : List Nat} : tx a = tx b ↔ a = b := by
  constructor
  · intro h
    have h : (tx a).cps = (tx b).cps := by rw [h]
    have h : a.toArray.toList = b.toArray.toList := congrArg Array.toList h
    exact h
  · rintro rfl; rfl
theorem tx_cut (l : List Nat) {i j : Nat} (h : i ≤ j) : cutS (tx l) (some (i : Int)) (some (j : Int)) = tx ((l.drop i).take (j - i)) := by
  unfold cutS
  rw [HT.sIx_nat, HT.sIx_nat, tx_len]
  show (⟨((l.drop (min i l.length)).take (min j l.length - min i l.length)).toArray⟩ : Str) = ⟨((l.drop i).take (j - i)).toArray⟩
  congr 2
  rcases Nat.le_total l.length i with w | w
  · rw [List.drop_eq_nil_of_le (show l.length ≤ min i l.length by omega), List.drop_eq_nil_of_le w, List.take_nil, List.take_nil]
  · rw [Nat.min_eq_left w]
    rcases Nat.le_total j l.length with z | z
    · rw [Nat.min_eq_left z]
    · rw [Nat.min_eq_right z, List.take_of_length_le (by rw [List.length_drop]; exact Nat.le_refl _), List.take_of_length_le (by rw [List.length_drop]; omega)]
/-- the signs behind a beginning -/
theorem tx_at (A R : List Nat) {n k : Nat} {j : Int} (hn : n = A.length) (hj : j = ((n + k : Nat) : Int)) : cutS (tx (A ++ R)) (some (n : Int)) (some j) = tx (R.take k) := by
  subst hn hj
  rw [tx_cut _ (by omega), List.drop_left, Nat.add_sub_cancel_left]
theorem tx_sign (A R : List Nat) {i : Int} {n : Nat} (hi : i = ((A.length + n : Nat) : Int)) : (tx (A ++ R)).cps[i.toNat]? = R[n]? := by
  subst hi
  rw [tx_get, Int.toNat_natCast, List.getElem?_append_right (by omega), Nat.add_sub_cancel_left]
def dg (c : Nat) : Nat := if c < 58 then c - 48 else c - 87
def isD (B c : Nat) : Bool := (decide (48 ≤ c) && decide (c ≤ 57)) || (decide (B = 16) && decide (97 ≤ c) && decide (c ≤ 102))
def valB (B : Nat) (l : List Nat) : Nat := l.foldl (fun n c => n * B + dg c) 0
theorem valB_snoc (B : Nat) (l : List Nat) (c : Nat) : valB B (l ++ [c]) = valB B l * B + dg c := by
  unfold valB
  rw [List.foldl_append]
  rfl
def sgT (B : Nat) : Str := if B = 16 then PySem.Str.ofString "0123456789abcdef" else PySem.Str.ofString "0123456789"
theorem isD_lt {B c : Nat} (h : isD B c = true) : c < 103 ∧ 48 ≤ c := by
  unfold isD at h
  simp only [Bool.or_eq_true, Bool.and_eq_true, decide_eq_true_eq] at h
  omega
theorem dg_lt {B c : Nat} (hB : B = 10 ∨ B = 16) (h : isD B c = true) : dg c < B := by
  unfold isD at h
  simp only [Bool.or_eq_true, Bool.and_eq_true, decide_eq_true_eq] at h
  have h1 : dg c = if c < 58 then c - 48 else c - 87 := rfl
  rw [h1]
  split <;> omega
theorem find10 : ∀ c, c < 103 → isD 10 c = true → Txt.find (PySem.Str.ofString "0123456789") ⟨#[c]⟩ = ((dg c : Nat) : Int) := by decide +kernel
theorem find16 : ∀ c, c < 103 → isD 16 c = true → Txt.find (PySem.Str.ofString "0123456789abcdef") ⟨#[c]⟩ = ((dg c : Nat) : Int) := by decide +kernel
theorem findD {B c : Nat} (hB : B = 10 ∨ B = 16) (h : isD B c = true) : Txt.find (sgT B) ⟨#[c]⟩ = ((dg c : Nat) : Int) := by
  rcases hB with rfl | rfl
  · exact find10 c (isD_lt h).1 h
  · exact find16 c (isD_lt h).1 h
theorem sg10 : (PySem.Str.ofString "0123456789").cps.toList = [48, 49, 50, 51, 52, 53, 54, 55, 56, 57] := by decide +kernel
theorem sg16 : (PySem.Str.ofString "0123456789abcdef").cps.toList = [48, 49, 50, 51, 52, 53, 54, 55, 56, 57, 97, 98, 99, 100, 101, 102] := by decide +kernel
theorem mem10 : ∀ c, c < 103 → decide (c ∈ (PySem.Str.ofString "0123456789").cps.toList) = isD 10 c := by rw [sg10]; decide +kernel
theorem mem16 : ∀ c, c < 103 → decide (c ∈ (PySem.Str.ofString "0123456789abcdef").cps.toList) = isD 16 c := by rw [sg16]; decide +kernel
theorem mem_hi {l : List Nat} {c : Nat} (h : l.all (fun x => decide (x < 103)) = true) (hc : ¬ c < 103) : decide (c ∈ l) = false :=
  decide_eq_false fun z => hc (of_decide_eq_true (List.all_eq_true.mp h c z))
theorem memD {B c : Nat} (hB : B = 10 ∨ B = 16) : decide (c ∈ (sgT B).cps.toList) = isD B c := by
  by_cases h : c < 103
  · rcases hB with rfl | rfl
    · exact mem10 c h
    · exact mem16 c h
  · have e : isD B c = false := by
      cases q : isD B c with
      | false => rfl
      | true => exact absurd (isD_lt q).1 h
    rw [e]
    rcases hB with rfl | rfl
    · exact mem_hi (l := (PySem.Str.ofString "0123456789").cps.toList) (by rw [sg10]; decide) h
    · exact mem_hi (l := (PySem.Str.ofString "0123456789abcdef").cps.toList) (by rw [sg16]; decide) h
theorem len_sgT {B : Nat} (hB : B = 10 ∨ B = 16) : (sgT B).length = B := by
  rcases hB with rfl | rfl
  · show (PySem.Str.ofString "0123456789").cps.size = _
    rw [← Array.length_toList, sg10]; rfl
  · show (PySem.Str.ofString "0123456789abcdef").cps.size = _
    rw [← Array.length_toList, sg16]; rfl
theorem valB_app_lt {B : Nat} (hB : B = 10 ∨ B = 16) : ∀ (l : List Nat), (∀ c ∈ l, isD B c = true) → ∀ n, l.foldl (fun n c => n * B + dg c) n < (n + 1) * B ^ l.length
  | [], _, n => by simp
  | c :: l, h, n => by
    have h1 := valB_app_lt hB l (fun x hx => h x (List.mem_cons_of_mem _ hx)) (n * B + dg c)
    have h2 := dg_lt hB (h c List.mem_cons_self)
    rw [List.foldl_cons, List.length_cons, Nat.pow_succ]
    refine Nat.lt_of_lt_of_le h1 ?_
    have h3 : n * B + dg c + 1 ≤ (n + 1) * B := by rw [Nat.add_mul, Nat.one_mul]; omega
    have h4 := Nat.mul_le_mul_right (B ^ l.length) h3
    rw [Nat.mul_assoc, Nat.mul_comm B] at h4
    exact h4
theorem valB_lt {B : Nat} (hB : B = 10 ∨ B = 16) {l : List Nat} (h : ∀ c ∈ l, isD B c = true) : valB B l < B ^ l.length := by
  have := valB_app_lt hB l h 0
  rw [Nat.zero_add, Nat.one_mul] at this
  exact this
theorem valB_bd {B : Nat} (hB : B = 10 ∨ B = 16) {l : List Nat} (h : ∀ c ∈ l, isD B c = true) (hl : l.length ≤ 1300) : Bd 5200 ((valB B l : Nat) : Int) := by
  have h1 := valB_lt hB h
  have h2 : B ^ l.length ≤ 16 ^ 1300 := by
    refine Nat.le_trans (Nat.pow_le_pow_left (show B ≤ 16 by omega) _) (Nat.pow_le_pow_right (by decide) hl)
  show (((valB B l : Nat) : Int)).natAbs < 2 ^ 5200
  rw [Int.natAbs_natCast]
  refine Nat.lt_of_lt_of_le h1 (Nat.le_trans h2 ?_)
  rw [show (16 : Nat) = 2 ^ 4 from rfl, ← Nat.pow_mul]
  exact Nat.pow_le_pow_right (by decide) (by decide)
theorem of_s1 (c : Nat) : tx [c] = ⟨#[c]⟩ := rfl
/-! ### signs and mantissas -/
def sgI (R : List Nat) : Int := if R.head? = some 45 then 1 else 0
def sgN (R : List Nat) : Nat := if R.head? = some 45 ∨ R.head? = some 43 then 1 else 0
theorem take1_eq (R : List Nat) (c : Nat) : decide (tx (R.take 1) = tx [c]) = decide (R.head? = some c) := by
  rw [Bool.eq_iff_iff, decide_eq_true_eq, decide_eq_true_eq, tx_eq]
  cases R with
  | nil => simp
  | cons x R => simp
theorem s_minus : PySem.Str.ofString "-" = tx [45] := by decide +kernel
theorem s_plus : PySem.Str.ofString "+" = tx [43] := by decide +kernel
theorem s_dot : PySem.Str.ofString "." = tx [46] := by decide +kernel
theorem c_dot (c : Nat) : decide ((⟨#[c]⟩ : Str) = PySem.Str.ofString ".") = decide (c = 46) := by
  rw [s_dot, Bool.eq_iff_iff, decide_eq_true_eq, decide_eq_true_eq]
  show tx [c] = tx [46] ↔ _
  rw [tx_eq]
  simp
def F_sign_at : DSp := fun ds μ Gd => ∃ A R : List Nat, ds = [.str (tx (A ++ R)), .int A.length] ∧ (A ++ R).length < 100000 ∧ Gd (.tup [.int (sgI R), .int ((A.length + sgN R : Nat) : Int)]) μ
-- sign_at: slots 0=text 1=at; level 1; calls 
def t_sign_at : DTS :=
  dSeq (dIfS (dTest (dOp dEq (dSlS (dVar 0) (dPart (dVar 1)) (dPart (dOp dAdd (dVar 1) (dC (.int 1))))) (dC (.str (PySem.Str.ofString "-"))))) (dRet (dTup (dCons (dC (.int 1)) (dCons (dOp dAdd (dVar 1) (dC (.int 1))) (dNil))))) (dNext)) (dSeq (dIfS (dTest (dOp dEq (dSlS (dVar 0) (dPart (dVar 1)) (dPart (dOp dAdd (dVar 1) (dC (.int 1))))) (dC (.str (PySem.Str.ofString "+"))))) (dRet (dTup (dCons (dC (.int 0)) (dCons (dOp dAdd (dVar 1) (dC (.int 1))) (dNil))))) (dNext)) (dRet (dTup (dCons (dC (.int 0)) (dCons (dVar 1) (dNil))))))
theorem cnt_sign_at : ∀ ds μ Gd, F_sign_at ds μ Gd → ds.length = 2 := by
  rintro ds μ Gd ⟨a, b, rfl, _⟩; rfl
theorem ok_sign_at : ∀ ds μ Gd, F_sign_at ds μ Gd → t_sign_at { nx := fun _ μ' => Gd .non μ', rt := Gd } (startD 2 ds) μ := by
  rintro ds μ Gd ⟨A, R, rfl, hl, q⟩
  show t_sign_at _ [some (.str (tx (A ++ R))), some (.int A.length)] _
  unfold t_sign_at
  have hz : (tx (A ++ R)).length ≤ sizeLine := by rw [tx_len, sizeLine_eq]; omega
  have hc : cutS (tx (A ++ R)) (some (A.length : Int)) (some ((A.length : Int) + 1)) = tx (R.take 1) := tx_at A R rfl (by omega)
  have e1 := take1_eq R 45
  have e2 := take1_eq R 43
  rw [← s_minus] at e1
  rw [← s_plus] at e2
  walk_at "d"
  rw [hc, e1]
  refine e_if (fun h => ?_) (fun h => ?_)
  · walk_at "d"
    unfold sgI sgN at q
    rw [if_pos h, if_pos (.inl h)] at q
    exact q
  · walk_at "d"
    rw [hc, e2]
    refine e_if (fun h2 => ?_) (fun h2 => ?_)
    · walk_at "d"
      unfold sgI sgN at q
      rw [if_neg h, if_pos (.inr h2)] at q
      exact q
    · walk_at "d"
      unfold sgI sgN at q
      rw [if_neg h, if_neg (fun z => z.elim h h2)] at q
      exact q
def dot (pt : Bool) : List Nat := if pt then [46] else []
structure Man (B most : Nat) (D1 D2 : List Nat) (pt : Bool) (R : List Nat) : Prop where
  base : B = 10 ∨ B = 16
  top : most ≤ 1300
  d1 : ∀ c ∈ D1, isD B c = true
  d2 : ∀ c ∈ D2, isD B c = true
  np : pt = false → D2 = []
  n1 : D1.length + D2.length ≤ most
  st : ∀ c, R.head? = some c → isD B c = false ∧ (c = 46 → pt = true)
def BT : Str := PySem.Str.ofString "BadText"
def PL : Str := PySem.Str.ofString "place"
def F_mantissa_at : DSpX := fun ds μ Gd Ex => ∃ (B most : Nat) (A D1 D2 : List Nat) (pt : Bool) (R : List Nat), ds = [.str (tx (A ++ (D1 ++ (dot pt ++ (D2 ++ R))))), .int A.length, .str (sgT B), .int most] ∧ (A ++ (D1 ++ (dot pt ++ (D2 ++ R)))).length < 100000 ∧ Man B most D1 D2 pt R ∧
  (0 < D1.length + D2.length → Gd (.tup [.int (valB B (D1 ++ D2) : Nat), .int (if pt = true then D2.length else 0 : Nat), .int ((A.length + (D1.length + ((dot pt).length + D2.length)) : Nat) : Int)]) μ) ∧ (D1.length + D2.length = 0 → Ex BT PL (.int ((A.length + (D1.length + ((dot pt).length + D2.length)) : Nat) : Int)) μ)
-- mantissa_at: slots 0=text 1=at 2=digits 3=most 4=number 5=many 6=point; level 1; calls 
def t_mantissa_at : DTSX :=
  dSeqX (dPure (dAsg (dTup (dCons (dC (.int 0)) (dCons (dC (.int 0)) (dCons (dC .non) (dNil))))) (dgSeq 3 (dgCons (dgName 4) (dgCons (dgName 5) (dgCons (dgName 6) (dgNil))))))) (dSeqX (dPure (dWhile (dTest (dOp dLt (dVar 1) (dCB dLenS (dCons (dVar 0) (dNil))))) (dSeq (dIfS (dAndT (dTest (dOp dEq (dOp dIxS (dVar 0) (dVar 1)) (dC (.str (PySem.Str.ofString "."))))) (dTest (dOp dIsN (dVar 6) (dC .non)))) (dAsg (dVar 5) (dgName 6)) (dIfS (dAndT (dTest (dOp dInC (dOp dIxS (dVar 0) (dVar 1)) (dVar 2))) (dTest (dOp dLt (dVar 5) (dVar 3)))) (dSeq (dAsg (dOp dAdd (dOp dMul (dVar 4) (dCB dLenS (dCons (dVar 2) (dNil)))) (dFind (dVar 2) (dOp dIxS (dVar 0) (dVar 1)))) (dgName 4)) (dAug 5 (dC (.int 1)))) (dBreak))) (dAug 1 (dC (.int 1)))))) (dSeqX (dIfX (dTest (dOp dEq (dVar 5) (dC (.int 0)))) (dRaiseX (PySem.Str.ofString "BadText") (PySem.Str.ofString "place") (dCons (dVar 1) (dNil))) (dPure (dNext))) (dPure (dRet (dTup (dCons (dVar 4) (dCons (dIf (dTest (dOp dIsN (dVar 6) (dC .non))) (dC (.int 0)) (dOp dSub (dVar 5) (dVar 6))) (dCons (dVar 1) (dNil)))))))))
theorem cnt_mantissa_at : ∀ ds μ Gd Ex, F_mantissa_at ds μ Gd Ex → ds.length = 4 := by
  rintro ds μ Gd Ex ⟨a, b, c, d, e, f, g, rfl, _⟩; rfl
theorem ok_mantissa_at : ∀ ds μ Gd Ex, F_mantissa_at ds μ Gd Ex → t_mantissa_at { nx := fun _ μ' => Gd .non μ', rt := Gd } (fun cn f x _ μ' => Ex cn f x μ') (startD 7 ds) μ := by
  rintro ds μ Gd Ex ⟨B, most, A, D1, D2, pt, R, rfl, hl, M, q, qx⟩
  show t_mantissa_at _ _ [some (.str (tx (A ++ (D1 ++ (dot pt ++ (D2 ++ R)))))), some (.int A.length), some (.str (sgT B)), some (.int most), none, none, none] _
  unfold t_mantissa_at
  have hT : (tx (A ++ (D1 ++ (dot pt ++ (D2 ++ R))))).length = A.length + (D1.length + ((dot pt).length + (D2.length + R.length))) := by
    rw [tx_len]; simp only [List.length_append]
  have hl2 : A.length + (D1.length + ((dot pt).length + (D2.length + R.length))) < 100000 := by simpa only [List.length_append] using hl
  have sg : ∀ n : Nat, (tx (A ++ (D1 ++ (dot pt ++ (D2 ++ R))))).cps[((A.length : Int) + (n : Int)).toNat]? = (D1 ++ (dot pt ++ (D2 ++ R)))[n]? := fun n => tx_sign A _ (by omega)
  generalize tx (A ++ (D1 ++ (dot pt ++ (D2 ++ R)))) = T at *
  have hz : T.length ≤ sizeLine := by rw [hT, sizeLine_eq]; omega
  have zB : (sgT B).length ≤ sizeLine := by rw [len_sgT M.base, sizeLine_eq]; have := M.base; omega
  have mb := M.top
  have mn := M.n1
  walk_at "d"
  obtain ⟨E, hE⟩ : ∃ E : Nat, E = A.length + (D1.length + ((dot pt).length + D2.length)) := ⟨_, rfl⟩
  rw [← hE] at q qx
  refine while_by
    (fun m σ μ' => μ' = μ ∧ ((∃ i, i ≤ D1.length ∧ σ = [some (.str T), some (.int ((A.length : Int) + (i : Nat))), some (.str (sgT B)), some (.int most), some (.int (valB B (D1.take i) : Nat)), some (.int (i : Nat)), some .non] ∧ m = 200000 - (A.length + i)) ∨
      (pt = true ∧ ∃ j, j ≤ D2.length ∧ σ = [some (.str T), some (.int ((A.length : Int) + ((D1.length + 1 + j : Nat) : Int))), some (.str (sgT B)), some (.int most), some (.int (valB B (D1 ++ D2.take j) : Nat)), some (.int ((D1.length + j : Nat) : Int)), some (.int D1.length)] ∧ m = 200000 - (A.length + (D1.length + 1 + j)))))
    (fun σ μ' => μ' = μ ∧ σ = [some (.str T), some (.int E), some (.str (sgT B)), some (.int most), some (.int (valB B (D1 ++ D2) : Nat)), some (.int ((D1.length + D2.length : Nat) : Int)), some (if pt = true then .int D1.length else .non)])
    ⟨rfl, .inl ⟨0, Nat.zero_le _, by rw [List.take_zero]; simp [valB], rfl⟩⟩ ?_ ?_
  · rintro σ μ' ⟨rfl, rfl⟩
    walk_at "d"
    by_cases h0 : D1.length + D2.length = 0
    · refine e_ifT (decide_eq_true (by omega)) ?_
      walk_at "d"
      exact qx h0
    have q := q (by omega)
    refine e_ifF (decide_eq_false (by omega)) ?_
    walk_at "d"
    cases pt with
    | false =>
      have e2 : D2 = [] := M.np rfl
      walk_at "d"
      exact q
    | true =>
      rw [if_pos rfl] at q ⊢
      walk_at "d"
      rw [show ((D1.length + D2.length : Nat) : Int) - (D1.length : Int) = ((D2.length : Nat) : Int) by omega]
      exact q
  · intro Bk hB m σ μ' hI
    obtain ⟨rfl, hI⟩ := hI
    have stop : ∀ {σ : DSt}, σ = [some (.str T), some (.int E), some (.str (sgT B)), some (.int most), some (.int (valB B (D1 ++ D2) : Nat)), some (.int ((D1.length + D2.length : Nat) : Int)), some (if pt = true then .int D1.length else .non)] → Bk σ μ' := fun h => hB _ _ ⟨rfl, h⟩
    rcases hI with ⟨i, hi, rfl, rfl⟩ | ⟨hpt, j, hj, rfl, rfl⟩
    · walk_at "d"
      refine ⟨T, rfl, hz, ?_⟩
      rw [hT]
      walk_at "d"
      by_cases hi2 : i < D1.length
      · refine e_ifT (decide_eq_true (by omega)) ?_
        refine ⟨_, fun σ' μ' h => h, ?_⟩
        obtain ⟨c, hc⟩ : ∃ c, D1[i]? = some c := ⟨_, List.getElem?_eq_getElem hi2⟩
        have hd : isD B c = true := M.d1 c (List.mem_of_getElem? hc)
        have hch : T.cps[((A.length : Int) + (i : Int)).toNat]? = some c := by rw [sg i, List.getElem?_append_left hi2]; exact hc
        have h46 : c ≠ 46 := by have := isD_lt hd; omega
        have htake : D1.take (i + 1) = D1.take i ++ [c] := by rw [List.take_add_one, hc]; rfl
        have hdt : ∀ x ∈ D1.take i, isD B x = true := fun x hx => M.d1 x (List.mem_of_mem_take hx)
        have bv := valB_bd M.base hdt (by rw [List.length_take]; omega)
        walk_at "d"
        refine ⟨T, _, c, rfl, rfl, by omega, by omega, by omega, hch, ?_⟩
        walk_at "d"
        rw [c_dot]
        refine e_ifF (decide_eq_false h46) ?_
        walk_at "d"
        refine ⟨T, _, c, rfl, rfl, by omega, by omega, by omega, hch, ?_⟩
        walk_at "d"
        refine ⟨c, sgT B, rfl, rfl, ?_⟩
        rw [memD M.base, hd]
        walk_at "d"
        refine ⟨_, rfl, zB, ?_⟩
        rw [len_sgT M.base]
        refine e_mulI (mul_ok (j := 8) bv (bd_small 8 (by have := M.base; omega)) (by decide)) ?_
        walk_at "d"
        refine ⟨T, _, c, rfl, rfl, by omega, by omega, by omega, hch, ?_⟩
        walk_at "d"
        rw [findD M.base hd]
        walk_at "d"
        refine ⟨_, ?_, rfl, .inl ⟨i + 1, hi2, ?_, rfl⟩⟩
        · omega
        · rw [htake, valB_snoc]
          push_cast
          rw [Int.add_assoc]
          rfl
      · have hi3 : i = D1.length := by omega
        subst hi3
        rw [List.take_length]
        by_cases hp : pt = true
        · have hdl : (dot pt).length = 1 := by rw [hp]; rfl
          refine e_ifT (decide_eq_true (by omega)) ?_
          refine ⟨_, fun σ' μ' h => h, ?_⟩
          have hch : T.cps[((A.length : Int) + (D1.length : Int)).toNat]? = some 46 := by
            rw [sg, List.getElem?_append_right (Nat.le_refl _), Nat.sub_self, hp]; rfl
          walk_at "d"
          refine ⟨T, _, 46, rfl, rfl, by omega, by omega, by omega, hch, ?_⟩
          walk_at "d"
          refine ⟨_, ?_, rfl, .inr ⟨hp, 0, Nat.zero_le _, ?_, rfl⟩⟩
          · omega
          · rw [List.take_zero, List.append_nil]
            push_cast
            rw [Int.add_assoc]
            rfl
        · have hpf : pt = false := by cases pt with | false => rfl | true => exact absurd rfl hp
          have hD2 : D2 = [] := M.np hpf
          have hfin : Bk [some (.str T), some (.int ((A.length : Int) + (D1.length : Nat))), some (.str (sgT B)), some (.int most), some (.int (valB B D1 : Nat)), some (.int (D1.length : Nat)), some .non] μ' := stop (by
            subst hD2 hpf hE
            simp [dot])
          cases hR : R with
          | nil =>
            refine e_ifF (decide_eq_false (by rw [hpf, hD2]; simp [dot])) ?_
            exact hfin
          | cons c R' =>
            have hs := M.st c (by rw [hR]; rfl)
            have h46 : c ≠ 46 := fun z => hp (hs.2 z)
            have hch : T.cps[((A.length : Int) + (D1.length : Int)).toNat]? = some c := by
              rw [sg, List.getElem?_append_right (Nat.le_refl _), Nat.sub_self, hpf, hD2, hR]; rfl
            have hlt : D1.length < D1.length + ((dot pt).length + (D2.length + R.length)) := by rw [hR, List.length_cons]; omega
            rw [← hR]
            refine e_ifT (decide_eq_true (by omega)) ?_
            refine ⟨_, fun σ' μ' h => h, ?_⟩
            walk_at "d"
            refine ⟨T, _, c, rfl, rfl, by omega, by omega, by omega, hch, ?_⟩
            walk_at "d"
            rw [c_dot]
            refine e_ifF (decide_eq_false h46) ?_
            walk_at "d"
            refine ⟨T, _, c, rfl, rfl, by omega, by omega, by omega, hch, ?_⟩
            walk_at "d"
            refine ⟨c, sgT B, rfl, rfl, ?_⟩
            rw [memD M.base, hs.1]
            walk_at "d"
            exact hfin
    · have hdl : (dot pt).length = 1 := by rw [hpt]; rfl
      have hdv : dot pt = [46] := by rw [hpt]; rfl
      walk_at "d"
      refine ⟨T, rfl, hz, ?_⟩
      rw [hT]
      walk_at "d"
      have hnat : (A.length : Int) + ((D1.length + 1 + j : Nat) : Int) = (A.length : Int) + ((D1.length + (1 + j) : Nat) : Int) := by omega
      by_cases hj2 : j < D2.length
      · refine e_ifT (decide_eq_true (by omega)) ?_
        refine ⟨_, fun σ' μ' h => h, ?_⟩
        obtain ⟨c, hc⟩ : ∃ c, D2[j]? = some c := ⟨_, List.getElem?_eq_getElem hj2⟩
        have hd : isD B c = true := M.d2 c (List.mem_of_getElem? hc)
        have hch : T.cps[((A.length : Int) + ((D1.length + 1 + j : Nat) : Int)).toNat]? = some c := by
          rw [sg, List.getElem?_append_right (by omega), hdv, List.getElem?_append_right (by show 1 ≤ _; omega), List.getElem?_append_left (by show _ - 1 < _; omega)]
          rw [← hc]
          congr 1
          show D1.length + 1 + j - D1.length - 1 = j
          omega
        have h46 : c ≠ 46 := by have := isD_lt hd; omega
        have htake : D1 ++ D2.take (j + 1) = D1 ++ D2.take j ++ [c] := by rw [List.take_add_one, hc, List.append_assoc]; rfl
        have hdt : ∀ x ∈ D1 ++ D2.take j, isD B x = true := fun x hx => (List.mem_append.mp hx).elim (M.d1 x) fun h => M.d2 x (List.mem_of_mem_take h)
        have bv := valB_bd M.base hdt (by rw [List.length_append, List.length_take]; omega)
        walk_at "d"
        refine ⟨T, _, c, rfl, rfl, by omega, by omega, by omega, hch, ?_⟩
        walk_at "d"
        rw [c_dot]
        refine e_ifF (decide_eq_false h46) ?_
        walk_at "d"
        refine ⟨T, _, c, rfl, rfl, by omega, by omega, by omega, hch, ?_⟩
        walk_at "d"
        refine ⟨c, sgT B, rfl, rfl, ?_⟩
        rw [memD M.base, hd]
        walk_at "d"
        refine ⟨_, rfl, zB, ?_⟩
        rw [len_sgT M.base]
        refine e_mulI (mul_ok (j := 8) bv (bd_small 8 (by have := M.base; omega)) (by decide)) ?_
        walk_at "d"
        refine ⟨T, _, c, rfl, rfl, by omega, by omega, by omega, hch, ?_⟩
        walk_at "d"
        rw [findD M.base hd]
        walk_at "d"
        refine ⟨_, ?_, rfl, .inr ⟨hpt, j + 1, hj2, ?_, rfl⟩⟩
        · omega
        · rw [htake, valB_snoc]
          push_cast
          simp only [Int.add_assoc]
          rfl
      · have hj3 : j = D2.length := by omega
        subst hj3
        rw [List.take_length]
        have hfin : Bk [some (.str T), some (.int ((A.length : Int) + ((D1.length + 1 + D2.length : Nat) : Int))), some (.str (sgT B)), some (.int most), some (.int (valB B (D1 ++ D2) : Nat)), some (.int ((D1.length + D2.length : Nat) : Int)), some (.int D1.length)] μ' := stop (by
          rw [hE, hdl, if_pos hpt]
          have e : (A.length : Int) + ((D1.length + 1 + D2.length : Nat) : Int) = ((A.length + (D1.length + (1 + D2.length)) : Nat) : Int) := by omega
          rw [e])
        cases hR : R with
        | nil =>
          refine e_ifF (decide_eq_false (by rw [hdl]; simp only [List.length_nil]; omega)) ?_
          exact hfin
        | cons c R' =>
          have hs := M.st c (by rw [hR]; rfl)
          have hch : T.cps[((A.length : Int) + ((D1.length + 1 + D2.length : Nat) : Int)).toNat]? = some c := by
            rw [sg, List.getElem?_append_right (by omega), hdv, List.getElem?_append_right (by show 1 ≤ _; omega), List.getElem?_append_right (by show _ ≤ _ - 1; omega), hR]
            have : D1.length + 1 + D2.length - D1.length - [46].length - D2.length = 0 := by show D1.length + 1 + D2.length - D1.length - 1 - D2.length = 0; omega
            rw [this]
            rfl
          rw [← hR]
          have hlr : 0 < R.length := by rw [hR]; exact Nat.succ_pos _
          refine e_ifT (decide_eq_true (by omega)) ?_
          refine ⟨_, fun σ' μ' h => h, ?_⟩
          walk_at "d"
          refine ⟨T, _, c, rfl, rfl, by omega, by omega, by omega, hch, ?_⟩
          walk_at "d"
          rw [c_dot]
          refine e_if (fun h => ?_) (fun h => ?_)
          all_goals
            walk_at "d"
            refine ⟨T, _, c, rfl, rfl, by omega, by omega, by omega, hch, ?_⟩
            walk_at "d"
            refine ⟨c, sgT B, rfl, rfl, ?_⟩
            rw [memD M.base, hs.1]
            walk_at "d"
            exact hfin
/-! ### exponents -/
theorem fold_ge {B : Nat} (hB : 1 ≤ B) : ∀ (l : List Nat) (n : Nat), n ≤ l.foldl (fun n c => n * B + dg c) n
  | [], n => Nat.le_refl _
  | c :: l, n => by
    rw [List.foldl_cons]
    refine Nat.le_trans ?_ (fold_ge hB l _)
    have := Nat.mul_le_mul_left n hB
    omega
theorem valB_take {B : Nat} (hB : 1 ≤ B) (l : List Nat) (i : Nat) : valB B (l.take i) ≤ valB B l := by
  have h := fold_ge hB (l.drop i) (valB B (l.take i))
  have e : valB B l = (l.drop i).foldl (fun n c => n * B + dg c) (valB B (l.take i)) := by
    unfold valB
    rw [← List.foldl_append, List.take_append_drop]
  rw [e]; exact h
structure Exq (sg D : List Nat) : Prop where
  sgn : sg = [] ∨ sg = [43] ∨ sg = [45]
  d : ∀ c ∈ D, isD 10 c = true
  n0 : 0 < D.length
  n1 : D.length ≤ 100
def expI (sg D : List Nat) : Int := if sg = [45] then -((valB 10 D : Nat) : Int) else ((valB 10 D : Nat) : Int)
theorem sg_of {sg R : List Nat} (hs : sg = [] ∨ sg = [43] ∨ sg = [45]) (h : ∀ c, R.head? = some c → c ≠ 43 ∧ c ≠ 45) : sgI (sg ++ R) = (if sg = [45] then 1 else 0) ∧ sgN (sg ++ R) = sg.length := by
  unfold sgI sgN
  rcases hs with rfl | rfl | rfl
  · cases R with
    | nil => exact ⟨rfl, rfl⟩
    | cons c R =>
      obtain ⟨h1, h2⟩ := h c rfl
      simp [h1, h2]
  · simp
  · simp
theorem memX (c : Nat) : decide (c ∈ (PySem.Str.ofString "0123456789").cps.toList) = isD 10 c := memD (B := 10) (.inl rfl)
theorem findX {c : Nat} (h : isD 10 c = true) : Txt.find (PySem.Str.ofString "0123456789") ⟨#[c]⟩ = ((dg c : Nat) : Int) := find10 c (isD_lt h).1 h
theorem rng_at12 {lo : Int} {n i : Nat} {x : D} (h : (rngD lo n)[i]? = some x) : i < n ∧ x = .int (lo + i) := by
  have hi := (List.getElem?_eq_some_iff.mp h).1
  rw [rngD_len] at hi
  unfold rngD at h
  rw [List.getElem?_map, List.getElem?_range hi] at h
  cases h
  exact ⟨hi, rfl⟩
def F_exponent_at_end : DSpX := fun ds μ Gd Ex => ∃ (A sg Z : List Nat) (most : Nat), ds = [.str (tx (A ++ (sg ++ Z))), .int A.length, .int most] ∧ (A ++ (sg ++ Z)).length < 100000 ∧ (sg = [] ∨ sg = [43] ∨ sg = [45]) ∧ (∀ c ∈ Z, isD 10 c = true) ∧ Z.length ≤ 100 ∧ most ≤ 2000 ∧
  (0 < Z.length → valB 10 Z ≤ most → Gd (.int (expI sg Z)) μ) ∧ (Z.length = 0 → Ex BT PL (.int ((A.length + sg.length : Nat) : Int)) μ) ∧ (∀ i : Nat, valB 10 (Z.take i) ≤ most → most < valB 10 (Z.take (i + 1)) → Ex BT PL (.int (((A.length + sg.length : Nat) : Int) + (i : Nat))) μ)
-- exponent_at_end: slots 0=text 1=at 2=most 3=sign 4=number 5=place; level 2; calls sign_at
def t_exponent_at_end : DTSX :=
  dSeqX (dPure (dAsg (dCall F_sign_at (dCons (dVar 0) (dCons (dVar 1) (dNil)))) (dgSeq 2 (dgCons (dgName 3) (dgCons (dgName 1) (dgNil)))))) (dSeqX (dIfX (dTest (dOp dEq (dVar 1) (dCB dLenS (dCons (dVar 0) (dNil))))) (dRaiseX (PySem.Str.ofString "BadText") (PySem.Str.ofString "place") (dCons (dVar 1) (dNil))) (dPure (dNext))) (dSeqX (dPure (dAsg (dC (.int 0)) (dgName 4))) (dSeqX (dForX (dRngW (dCons (dVar 1) (dCons (dCB dLenS (dCons (dVar 0) (dNil))) (dNil)))) (dgName 5) (dSeqX (dIfX (dTest (dOp dNotInC (dOp dIxS (dVar 0) (dVar 5)) (dC (.str (PySem.Str.ofString "0123456789"))))) (dRaiseX (PySem.Str.ofString "BadText") (PySem.Str.ofString "place") (dCons (dVar 5) (dNil))) (dPure (dNext))) (dSeqX (dPure (dAsg (dOp dAdd (dOp dMul (dVar 4) (dC (.int 10))) (dFind (dC (.str (PySem.Str.ofString "0123456789"))) (dOp dIxS (dVar 0) (dVar 5)))) (dgName 4))) (dIfX (dTest (dOp dGt (dVar 4) (dVar 2))) (dRaiseX (PySem.Str.ofString "BadText") (PySem.Str.ofString "place") (dCons (dVar 5) (dNil))) (dPure (dNext)))))) (dPure (dRet (dIf (dTest (dOp dEq (dVar 3) (dC (.int 1)))) (dUn dNeg (dVar 4)) (dVar 4)))))))
theorem cnt_exponent_at_end : ∀ ds μ Gd Ex, F_exponent_at_end ds μ Gd Ex → ds.length = 3 := by
  rintro ds μ Gd Ex ⟨a, b, c, d, rfl, _⟩; rfl
theorem ok_exponent_at_end : ∀ ds μ Gd Ex, F_exponent_at_end ds μ Gd Ex → t_exponent_at_end { nx := fun _ μ' => Gd .non μ', rt := Gd } (fun cn f x _ μ' => Ex cn f x μ') (startD 6 ds) μ := by
  rintro ds μ Gd Ex ⟨A, sg, Z, most, rfl, hl, Xs, Xd, X1, hm, q, qz, qx⟩
  show t_exponent_at_end _ _ [some (.str (tx (A ++ (sg ++ Z)))), some (.int A.length), some (.int most), none, none, none] _
  unfold t_exponent_at_end
  have hl2 : A.length + (sg.length + Z.length) < 100000 := by simpa only [List.length_append] using hl
  obtain ⟨s1, s2⟩ := sg_of (R := Z) Xs fun c hc => by
    have := isD_lt (Xd c (List.mem_of_mem_head? hc))
    omega
  walk_at "d"
  refine ⟨A, sg ++ Z, rfl, hl, ?_⟩
  rw [s1, s2]
  have hT : (tx (A ++ (sg ++ Z))).length = A.length + (sg.length + Z.length) := by rw [tx_len]; simp only [List.length_append]
  have sgn : ∀ n : Nat, (tx (A ++ (sg ++ Z))).cps[(((A.length + sg.length : Nat) : Int) + (n : Int)).toNat]? = Z[n]? := fun n => by
    rw [← List.append_assoc]
    exact tx_sign (A ++ sg) Z (by rw [List.length_append]; omega)
  generalize tx (A ++ (sg ++ Z)) = T at *
  have hz : T.length ≤ sizeLine := by rw [hT, sizeLine_eq]; omega
  walk_at "d"
  refine ⟨T, rfl, hz, ?_⟩
  rw [hT]
  walk_at "d"
  by_cases h0 : Z.length = 0
  · refine e_ifT (decide_eq_true (by omega)) ?_
    walk_at "d"
    exact qz h0
  refine e_ifF (decide_eq_false (by omega)) ?_
  walk_at "d"
  refine e_forX ?_
  walk_at "d"
  refine ⟨T, rfl, hz, ?_⟩
  rw [hT]
  walk_at "d"
  rw [show (((A.length + (sg.length + Z.length) : Nat) : Int) - ((A.length + sg.length : Nat) : Int)).toNat = Z.length by omega]
  refine loopX_inv (fun i σ μ' => μ' = μ ∧ i ≤ Z.length ∧ valB 10 (Z.take i) ≤ most ∧ ∃ z, σ = [some (.str T), some (.int ((A.length + sg.length : Nat) : Int)), some (.int most), some (.int (if sg = [45] then 1 else 0)), some (.int (valB 10 (Z.take i) : Nat)), z]) _ 0 _ _ ⟨rfl, Nat.zero_le _, Nat.zero_le _, none, rfl⟩ ?_ ?_
  · rintro i x σ μ' K ex ⟨rfl, hi, hv, z, rfl⟩ hK
    rw [Nat.zero_add] at hi hv hK ⊢
    obtain ⟨hi2, rfl⟩ := rng_at12 ex
    obtain ⟨c, hc⟩ : ∃ c, Z[i]? = some c := ⟨_, List.getElem?_eq_getElem hi2⟩
    have hd : isD 10 c = true := Xd c (List.mem_of_getElem? hc)
    have hch := (sgn i).trans hc
    have htake : Z.take (i + 1) = Z.take i ++ [c] := by rw [List.take_add_one, hc]; rfl
    have hdt : ∀ x ∈ Z.take i, isD 10 x = true := fun x hx => Xd x (List.mem_of_mem_take hx)
    have bv := valB_bd (.inl rfl) hdt (by rw [List.length_take]; omega)
    have qx := qx i hv
    rw [htake, valB_snoc] at hK qx
    walk_at "d"
    refine ⟨T, _, c, rfl, rfl, by omega, by omega, by omega, hch, ?_⟩
    walk_at "d"
    refine ⟨c, _, rfl, rfl, ?_⟩
    rw [memX, hd]
    walk_at "d"
    refine e_mulI (mul_ok (j := 8) bv (bd_small 8 (by decide)) (by decide)) ?_
    walk_at "d"
    refine ⟨T, _, c, rfl, rfl, by omega, by omega, by omega, hch, ?_⟩
    walk_at "d"
    rw [findX hd]
    walk_at "d"
    refine e_if (fun h => ?_) (fun h => ?_)
    · walk_at "d"
      exact qx (by omega)
    · walk_at "d"
      refine hK _ _ ⟨rfl, hi2, by omega, some (.int (((A.length + sg.length : Nat) : Int) + (i : Int))), ?_⟩
      rw [show ((valB 10 (Z.take i) * 10 + dg c : Nat) : Int) = (valB 10 (Z.take i) : Nat) * 10 + (dg c : Nat) by push_cast; rfl]
      rfl
  · rintro σ μ' ⟨rfl, _, hv, z, rfl⟩
    rw [rngD_len, Nat.zero_add, List.take_length] at hv ⊢
    have q := q (by omega) hv
    unfold expI at q
    by_cases h : sg = [45]
    · rw [if_pos h] at q
      rw [if_pos h]
      walk_at "d"
      exact q
    · rw [if_neg h] at q
      rw [if_neg h]
      walk_at "d"
      exact q
/-! ### inf -/
theorem inf_items : ((PySem.Str.ofString "inf").cps.toList.map fun c => D.str ⟨#[c]⟩) = [.str (tx [105]), .str (tx [110]), .str (tx [102])] := by
  rw [show (PySem.Str.ofString "inf").cps.toList = [105, 110, 102] by decide +kernel]
  rfl
def F_check_infinite : DSp := fun ds μ Gd => ∃ A : List Nat, ds = [.str (tx (A ++ [105, 110, 102])), .int A.length] ∧ A.length < 100000 ∧ Gd .non μ
-- check_infinite: slots 0=text 1=at 2=letter; level 1; calls 
def t_check_infinite : DTS :=
  dSeq (dFor (dItS (dC (.str (PySem.Str.ofString "inf")))) (dgName 2) (dSeq (dIfS (dTest (dOp dNe (dSlS (dVar 0) (dPart (dVar 1)) (dPart (dOp dAdd (dVar 1) (dC (.int 1))))) (dVar 2))) (dNever) (dNext)) (dAug 1 (dC (.int 1))))) (dIfS (dTest (dOp dLt (dVar 1) (dCB dLenS (dCons (dVar 0) (dNil))))) (dNever) (dNext))
theorem cnt_check_infinite : ∀ ds μ Gd, F_check_infinite ds μ Gd → ds.length = 2 := by
  rintro ds μ Gd ⟨a, rfl, _⟩; rfl
theorem ok_check_infinite : ∀ ds μ Gd, F_check_infinite ds μ Gd → t_check_infinite { nx := fun _ μ' => Gd .non μ', rt := Gd } (startD 3 ds) μ := by
  rintro ds μ Gd ⟨A, rfl, hl, q⟩
  show t_check_infinite _ [some (.str (tx (A ++ [105, 110, 102]))), some (.int A.length), none] _
  unfold t_check_infinite
  have hT : (tx (A ++ [105, 110, 102])).length = A.length + 3 := by rw [tx_len, List.length_append]; rfl
  have hz : (tx (A ++ [105, 110, 102])).length ≤ sizeLine := by rw [hT, sizeLine_eq]; omega
  have hc : ∀ i : Nat, i < 3 → cutS (tx (A ++ [105, 110, 102])) (some ((A.length : Int) + (i : Nat))) (some ((A.length : Int) + (i : Nat) + 1)) = tx (([105, 110, 102].drop i).take 1) := fun i hi => by
    rw [show (A.length : Int) + (i : Nat) = ((A.length + i : Nat) : Int) by omega, show ((A.length + i : Nat) : Int) + 1 = ((A.length + i + 1 : Nat) : Int) by omega, tx_cut _ (by omega), List.drop_append]
    rw [List.drop_eq_nil_of_le (show A.length ≤ A.length + i by omega), List.nil_append]
    rw [show A.length + i - A.length = i by omega, show A.length + i + 1 - (A.length + i) = 1 by omega]
  generalize tx (A ++ [105, 110, 102]) = T at *
  walk_at "d"
  rw [inf_items]
  refine loop_inv (fun i σ μ' => μ' = μ ∧ i ≤ 3 ∧ ∃ z, σ = [some (.str T), some (.int ((A.length : Int) + (i : Nat))), z]) _ 0 _ _ ⟨rfl, by decide, none, by rw [Int.natCast_zero, Int.add_zero]⟩ ?_ ?_
  · rintro i x σ μ' K ex ⟨rfl, hi, z, rfl⟩ hK
    rw [Nat.zero_add] at hi hK ⊢
    obtain ⟨hi2, rfl⟩ : i < 3 ∧ x = .str (tx (([105, 110, 102].drop i).take 1)) := by
      match i, ex with
      | 0, ex => cases ex; exact ⟨by decide, rfl⟩
      | 1, ex => cases ex; exact ⟨by decide, rfl⟩
      | 2, ex => cases ex; exact ⟨by decide, rfl⟩
      | n + 3, ex => simp at ex
    walk_at "d"
    rw [hc i hi2]
    refine e_ifF (by rw [decide_eq_true rfl]; rfl) ?_
    walk_at "d"
    refine hK _ _ ⟨rfl, hi2, some (.str (tx (([105, 110, 102].drop i).take 1))), ?_⟩
    rw [show (A.length : Int) + ((i + 1 : Nat) : Int) = (A.length : Int) + (i : Nat) + 1 by omega]
    rfl
  · rintro σ μ' ⟨rfl, _, z, rfl⟩
    walk_at "d"
    refine ⟨T, rfl, hz, ?_⟩
    rw [hT]
    walk_at "d"
    refine e_ifF (decide_eq_false (by simp only [List.length_cons, List.length_nil]; omega)) ?_
    walk_at "d"
    exact q
/-! ### the parts -/
def behI (pt : Bool) (D2 : List Nat) : Nat := if pt = true then D2.length else 0
def F_hex_parts : DSp := fun ds μ Gd => ∃ (A D1 D2 : List Nat) (pt : Bool) (sg Z : List Nat), ds = [.str (tx (A ++ (D1 ++ (dot pt ++ (D2 ++ (112 :: (sg ++ Z))))))), .int A.length] ∧ A.length < 1000 ∧ Man 16 300 D1 D2 pt (112 :: (sg ++ Z)) ∧ 0 < D1.length + D2.length ∧ Exq sg Z ∧ valB 10 Z ≤ 1400 ∧
  Gd (.tup [.int (valB 16 (D1 ++ D2) : Nat), .int (expI sg Z - 4 * (behI pt D2 : Nat))]) μ
-- hex_parts: slots 0=text 1=at 2=number 3=behind; level 3; calls exponent_at_end, mantissa_at
def t_hex_parts : DTS :=
  dSeq (dAsg (dCall (nx F_mantissa_at) (dCons (dVar 0) (dCons (dVar 1) (dCons (dC (.str (PySem.Str.ofString "0123456789abcdef"))) (dCons (dC (.int 300)) (dNil)))))) (dgSeq 3 (dgCons (dgName 2) (dgCons (dgName 3) (dgCons (dgName 1) (dgNil)))))) (dSeq (dIfS (dTest (dOp dNe (dSlS (dVar 0) (dPart (dVar 1)) (dPart (dOp dAdd (dVar 1) (dC (.int 1))))) (dC (.str (PySem.Str.ofString "p"))))) (dNever) (dNext)) (dRet (dTup (dCons (dVar 2) (dCons (dOp dSub (dCall (nx F_exponent_at_end) (dCons (dVar 0) (dCons (dOp dAdd (dVar 1) (dC (.int 1))) (dCons (dC (.int 1400)) (dNil))))) (dOp dMul (dC (.int 4)) (dVar 3))) (dNil))))))
theorem cnt_hex_parts : ∀ ds μ Gd, F_hex_parts ds μ Gd → ds.length = 2 := by
  rintro ds μ Gd ⟨a, b, c, d, e, f, rfl, _⟩; rfl
theorem s_p : PySem.Str.ofString "p" = tx [112] := by decide +kernel
theorem s_e : PySem.Str.ofString "e" = tx [101] := by decide +kernel
theorem dot_len (pt : Bool) : (dot pt).length ≤ 1 := by cases pt <;> decide
theorem sg_len {sg : List Nat} (h : sg = [] ∨ sg = [43] ∨ sg = [45]) : sg.length ≤ 1 := by rcases h with rfl | rfl | rfl <;> decide
theorem expI_bd {sg Z : List Nat} (X : Exq sg Z) : Bd 5200 (expI sg Z) := by
  have h := valB_bd (.inl rfl) X.d (by have := X.n1; omega)
  unfold expI
  split
  · exact bd_neg h
  · exact h
theorem ok_hex_parts : ∀ ds μ Gd, F_hex_parts ds μ Gd → t_hex_parts { nx := fun _ μ' => Gd .non μ', rt := Gd } (startD 4 ds) μ := by
  rintro ds μ Gd ⟨A, D1, D2, pt, sg, Z, rfl, hA, M, n0, X, hv, q⟩
  show t_hex_parts _ [some (.str (tx (A ++ (D1 ++ (dot pt ++ (D2 ++ (112 :: (sg ++ Z)))))))), some (.int A.length), none, none] _
  unfold t_hex_parts
  have l1 := M.n1
  have l2 := dot_len pt
  have l3 := sg_len X.sgn
  have l4 := X.n1
  have hl : (A ++ (D1 ++ (dot pt ++ (D2 ++ (112 :: (sg ++ Z)))))).length < 100000 := by simp only [List.length_append, List.length_cons]; omega
  walk_at "d"
  refine ⟨16, 300, A, D1, D2, pt, _, rfl, hl, M, fun _ => ?_, fun h => absurd h (Nat.ne_of_gt n0)⟩
  obtain ⟨A2, hA2⟩ : ∃ A2, A2 = A ++ (D1 ++ (dot pt ++ D2)) := ⟨_, rfl⟩
  have hlen : A.length + (D1.length + ((dot pt).length + D2.length)) = A2.length := by rw [hA2]; simp only [List.length_append]
  have hT : A ++ (D1 ++ (dot pt ++ (D2 ++ (112 :: (sg ++ Z))))) = A2 ++ (112 :: (sg ++ Z)) := by rw [hA2]; simp only [List.append_assoc]
  rw [hlen]
  rw [hT] at hl ⊢
  have hz : (tx (A2 ++ (112 :: (sg ++ Z)))).length ≤ sizeLine := by rw [tx_len, sizeLine_eq]; exact Nat.le_of_lt (Nat.lt_trans hl (by decide))
  have hc : cutS (tx (A2 ++ (112 :: (sg ++ Z)))) (some (A2.length : Int)) (some ((A2.length : Int) + 1)) = tx ((112 :: (sg ++ Z)).take 1) := tx_at A2 _ rfl (by omega)
  walk_at "d"
  rw [hc]
  refine e_ifF (by show (!decide (tx [112] = _)) = false; rw [s_p, decide_eq_true rfl]; rfl) ?_
  walk_at "d"
  have hT2 : A2 ++ (112 :: (sg ++ Z)) = (A2 ++ [112]) ++ (sg ++ Z) := by simp
  refine ⟨A2 ++ [112], sg, Z, 1400, by rw [hT2, show (A2.length : Int) + 1 = (((A2 ++ [112]).length : Nat) : Int) by simp]; rfl, by rw [← hT2]; exact hl, X.sgn, X.d, X.n1, by decide, fun _ _ => ?_, fun h => absurd h (Nat.ne_of_gt X.n0), fun i _ h => absurd h (Nat.not_lt.mpr (Nat.le_trans (valB_take (by decide) Z _) hv))⟩
  walk_at "d"
  refine e_mulI (mul_ok (i := 4) (j := 20) (bd_small 4 (by decide)) (bd_small 20 (by have : (if pt = true then D2.length else 0) ≤ 300 := (by split <;> omega); rw [Int.natAbs_natCast]; omega)) (by decide)) ?_
  walk_at "d"
  exact q
/-- what stands behind a decimal's digits -/
def tailE (R : List Nat) (k : Int) : Prop := (R = [] ∧ k = 0) ∨ ∃ sg Z, R = 101 :: (sg ++ Z) ∧ Exq sg Z ∧ valB 10 Z ≤ 1200 ∧ k = expI sg Z
theorem tail_len {R : List Nat} {k : Int} (h : tailE R k) : R.length ≤ 102 := by
  rcases h with ⟨rfl, _⟩ | ⟨sg, Z, rfl, X, _, _⟩
  · decide
  · have := sg_len X.sgn
    have := X.n1
    simp only [List.length_append, List.length_cons]
    omega
def F_decimal_parts : DSpX := fun ds μ Gd Ex => ∃ (A D1 D2 : List Nat) (pt : Bool) (R : List Nat), ds = [.str (tx (A ++ (D1 ++ (dot pt ++ (D2 ++ R))))), .int A.length] ∧ A.length < 1000 ∧ Man 10 1300 D1 D2 pt R ∧ R.length ≤ 102 ∧
  (D1.length + D2.length = 0 → Ex BT PL (.int ((A.length + (D1.length + ((dot pt).length + D2.length)) : Nat) : Int)) μ) ∧
  (0 < D1.length + D2.length → (R = [] ∧ Gd (.tup [.int (valB 10 (D1 ++ D2) : Nat), .int (0 - (behI pt D2 : Nat))]) μ) ∨
    ∃ sg Z, R = 101 :: (sg ++ Z) ∧ (sg = [] ∨ sg = [43] ∨ sg = [45]) ∧ (∀ c ∈ Z, isD 10 c = true) ∧ Z.length ≤ 100 ∧
      (0 < Z.length → valB 10 Z ≤ 1200 → Gd (.tup [.int (valB 10 (D1 ++ D2) : Nat), .int (expI sg Z - (behI pt D2 : Nat))]) μ) ∧
      (Z.length = 0 → Ex BT PL (.int ((A.length + (D1.length + ((dot pt).length + D2.length)) + 1 + sg.length : Nat) : Int)) μ) ∧
      (∀ i : Nat, valB 10 (Z.take i) ≤ 1200 → 1200 < valB 10 (Z.take (i + 1)) → Ex BT PL (.int (((A.length + (D1.length + ((dot pt).length + D2.length)) + 1 + sg.length : Nat) : Int) + (i : Nat))) μ))
-- decimal_parts: slots 0=text 1=at 2=number 3=behind; level 3; calls exponent_at_end, mantissa_at
def t_decimal_parts : DTSX :=
  dSeqX (dAsgE (dCallX F_mantissa_at (dAE (dCons (dVar 0) (dCons (dVar 1) (dCons (dC (.str (PySem.Str.ofString "0123456789"))) (dCons (dC (.int 1300)) (dNil))))))) (dgSeq 3 (dgCons (dgName 2) (dgCons (dgName 3) (dgCons (dgName 1) (dgNil)))))) (dSeqX (dPure (dIfS (dTest (dOp dEq (dVar 1) (dCB dLenS (dCons (dVar 0) (dNil))))) (dRet (dTup (dCons (dVar 2) (dCons (dUn dNeg (dVar 3)) (dNil))))) (dNext))) (dSeqX (dIfX (dTest (dOp dNe (dOp dIxS (dVar 0) (dVar 1)) (dC (.str (PySem.Str.ofString "e"))))) (dRaiseX (PySem.Str.ofString "BadText") (PySem.Str.ofString "place") (dCons (dVar 1) (dNil))) (dPure (dNext))) (dRetE (dTupX (dConsX (dE (dVar 2)) (dConsX (dOpX dSub (dCallX F_exponent_at_end (dAE (dCons (dVar 0) (dCons (dOp dAdd (dVar 1) (dC (.int 1))) (dCons (dC (.int 1200)) (dNil)))))) (dVar 3)) (dAE (dNil))))))))
theorem cnt_decimal_parts : ∀ ds μ Gd Ex, F_decimal_parts ds μ Gd Ex → ds.length = 2 := by
  rintro ds μ Gd Ex ⟨a, b, c, d, e, rfl, _⟩; rfl
theorem ok_decimal_parts : ∀ ds μ Gd Ex, F_decimal_parts ds μ Gd Ex → t_decimal_parts { nx := fun _ μ' => Gd .non μ', rt := Gd } (fun cn f x _ μ' => Ex cn f x μ') (startD 4 ds) μ := by
  rintro ds μ Gd Ex ⟨A, D1, D2, pt, R, rfl, hA, M, l3, qx, q0⟩
  show t_decimal_parts _ _ [some (.str (tx (A ++ (D1 ++ (dot pt ++ (D2 ++ R)))))), some (.int A.length), none, none] _
  unfold t_decimal_parts
  have l1 := M.n1
  have l2 := dot_len pt
  have hl : (A ++ (D1 ++ (dot pt ++ (D2 ++ R)))).length < 100000 := by simp only [List.length_append]; omega
  walk_at "d"
  refine ⟨10, 1300, A, D1, D2, pt, R, rfl, hl, M, fun n0 => ?_, qx⟩
  have q := q0 n0
  clear q0 qx
  obtain ⟨A2, hA2⟩ : ∃ A2, A2 = A ++ (D1 ++ (dot pt ++ D2)) := ⟨_, rfl⟩
  have hlen : A.length + (D1.length + ((dot pt).length + D2.length)) = A2.length := by rw [hA2]; simp only [List.length_append]
  have hT : A ++ (D1 ++ (dot pt ++ (D2 ++ R))) = A2 ++ R := by rw [hA2]; simp only [List.append_assoc]
  rw [hlen] at q ⊢
  rw [hT] at hl ⊢
  have hzl : (tx (A2 ++ R)).length = A2.length + R.length := by rw [tx_len, List.length_append]
  have hl3 : A2.length + R.length < 100000 := by rw [← List.length_append]; exact hl
  have hz : (tx (A2 ++ R)).length ≤ sizeLine := by rw [hzl, sizeLine_eq]; omega
  walk_at "d"
  refine ⟨_, rfl, hz, ?_⟩
  rw [hzl]
  rcases q with ⟨rfl, q⟩ | ⟨sg, Z, rfl, Xs, Xd, X1, q, qz, qi⟩
  · refine e_eqI ?_
    refine ⟨_, rfl, e_ifT (decide_eq_true (by simp)) ?_⟩
    walk_at "d"
    unfold behI at q
    rw [Int.zero_sub] at q
    exact q
  · refine e_eqI ?_
    refine ⟨_, rfl, e_ifF (decide_eq_false (by rw [List.length_cons]; omega)) ?_⟩
    walk_at "d"
    have hch : (tx (A2 ++ 101 :: (sg ++ Z))).cps[((A2.length : Nat) : Int).toNat]? = some 101 := by
      rw [tx_sign A2 _ (n := 0) (by omega)]; rfl
    refine ⟨_, _, 101, rfl, rfl, by omega, by omega, by rw [hzl, List.length_cons]; omega, hch, ?_⟩
    walk_at "d"
    have hT2 : A2 ++ (101 :: (sg ++ Z)) = (A2 ++ [101]) ++ (sg ++ Z) := by simp
    have hA3 : (A2 ++ [101]).length = A2.length + 1 := by simp
    refine e_opX ?_
    walk_at "d"
    refine ⟨A2 ++ [101], sg, Z, 1200, by rw [hT2, show (A2.length : Int) + 1 = (((A2 ++ [101]).length : Nat) : Int) by simp]; rfl, by rw [← hT2]; exact hl, Xs, Xd, X1, by decide, fun z0 z1 => ?_, fun z0 => ?_, fun i i1 i2 => ?_⟩
    · walk_at "d"
      exact q z0 z1
    · rw [hA3]
      exact qz z0
    · rw [hA3]
      exact qi i i1 i2
/-! ### a number's text -/
def sgV (fr : List Nat) : Int := if fr = [45] then 1 else 0
def numT (t : Str) (d : D) : Prop := ∃ fr : List Nat, (fr = [] ∨ fr = [43] ∨ fr = [45]) ∧
  ((t = tx (fr ++ [105, 110, 102]) ∧ d = .tup [.int (sgV fr), .str (PySem.Str.ofString "inf")]) ∨
  (∃ D1 D2 pt sg Z, Man 16 300 D1 D2 pt (112 :: (sg ++ Z)) ∧ 0 < D1.length + D2.length ∧ Exq sg Z ∧ valB 10 Z ≤ 1400 ∧ t = tx (fr ++ (48 :: 120 :: (D1 ++ (dot pt ++ (D2 ++ (112 :: (sg ++ Z))))))) ∧ d = .tup [.int (sgV fr), .int 2, .int (valB 16 (D1 ++ D2) : Nat), .int (expI sg Z - 4 * (behI pt D2 : Nat))]) ∨
  (∃ D1 D2 pt R k, Man 10 1300 D1 D2 pt R ∧ 0 < D1.length + D2.length ∧ tailE R k ∧ t = tx (fr ++ (D1 ++ (dot pt ++ (D2 ++ R)))) ∧ d = .tup [.int (sgV fr), .int 10, .int (valB 10 (D1 ++ D2) : Nat), .int (k - (behI pt D2 : Nat))]))
/-- no number's text, and where it ends to be one -/
def badB (l : List Nat) (p : Int) : Prop := ∃ D1 R, l = D1 ++ R ∧ Man 10 1300 D1 [] false R ∧ l.length ≤ 100 ∧ (∀ c, l.head? = some c → c ≠ 43 ∧ c ≠ 45 ∧ c ≠ 105) ∧ l.take 2 ≠ [48, 120] ∧
  ((D1 = [] ∧ p = 0) ∨ (0 < D1.length ∧ R = [101] ∧ p = (D1.length : Int) + 1) ∨ (0 < D1.length ∧ ∃ (Z : List Nat) (i : Nat), R = 101 :: Z ∧ (∀ c ∈ Z, isD 10 c = true) ∧ 0 < Z.length ∧ i < Z.length ∧ valB 10 (Z.take i) ≤ 1200 ∧ 1200 < valB 10 (Z.take (i + 1)) ∧ p = (D1.length : Int) + 1 + i))
def badT (v p : D) : Prop := (v = .non ∧ p = .non) ∨ (v = .int 5 ∧ p = .non) ∨ ∃ l i, v = .str (tx l) ∧ p = .int i ∧ badB l i
def F_parse_text : DSpX := fun ds μ Gd Ex => (∃ (t : Str) (d : D), ds = [.str t] ∧ numT t d ∧ Gd d μ) ∨ ∃ v p, ds = [v] ∧ badT v p ∧ Ex BT PL p μ
-- parse_text: slots 0=value 1=sign 2=at 3=n 4=e 5=q; level 4; calls check_infinite, decimal_parts, hex_parts, sign_at
def t_parse_text : DTSX :=
  dSeqX (dIfX (dNotT (dTest (dCB dIsi (dCons (dVar 0) (dCons (dC (.ty "str")) (dNil)))))) (dRaiseX (PySem.Str.ofString "BadText") (PySem.Str.ofString "place") (dCons (dC .non) (dNil))) (dPure (dNext))) (dSeqX (dPure (dAsg (dCall F_sign_at (dCons (dVar 0) (dCons (dC (.int 0)) (dNil)))) (dgSeq 2 (dgCons (dgName 1) (dgCons (dgName 2) (dgNil)))))) (dSeqX (dPure (dIfS (dTest (dOp dEq (dSlS (dVar 0) (dPart (dVar 2)) (dPart (dOp dAdd (dVar 2) (dC (.int 1))))) (dC (.str (PySem.Str.ofString "i"))))) (dSeq (dDrop (dCall F_check_infinite (dCons (dVar 0) (dCons (dVar 2) (dNil))))) (dRet (dTup (dCons (dVar 1) (dCons (dC (.str (PySem.Str.ofString "inf"))) (dNil)))))) (dNext))) (dSeqX (dPure (dIfS (dTest (dOp dEq (dSlS (dVar 0) (dPart (dVar 2)) (dPart (dOp dAdd (dVar 2) (dC (.int 2))))) (dC (.str (PySem.Str.ofString "0x"))))) (dSeq (dAsg (dCall F_hex_parts (dCons (dVar 0) (dCons (dOp dAdd (dVar 2) (dC (.int 2))) (dNil)))) (dgSeq 2 (dgCons (dgName 3) (dgCons (dgName 4) (dgNil))))) (dRet (dTup (dCons (dVar 1) (dCons (dC (.int 2)) (dCons (dVar 3) (dCons (dVar 4) (dNil)))))))) (dNext))) (dSeqX (dAsgE (dCallX F_decimal_parts (dAE (dCons (dVar 0) (dCons (dVar 2) (dNil))))) (dgSeq 2 (dgCons (dgName 3) (dgCons (dgName 5) (dgNil))))) (dPure (dRet (dTup (dCons (dVar 1) (dCons (dC (.int 10)) (dCons (dVar 3) (dCons (dVar 5) (dNil))))))))))))
theorem cnt_parse_text : ∀ ds μ Gd Ex, F_parse_text ds μ Gd Ex → ds.length = 1 := by
  rintro ds μ Gd Ex (⟨a, b, rfl, _⟩ | ⟨a, b, rfl, _⟩) <;> rfl
theorem s_i : PySem.Str.ofString "i" = tx [105] := by decide +kernel
theorem s_0x : PySem.Str.ofString "0x" = tx [48, 120] := by decide +kernel
theorem isD10 {c : Nat} (h : isD 10 c = true) : 48 ≤ c ∧ c ≤ 57 := by
  unfold isD at h
  simp only [Bool.or_eq_true, Bool.and_eq_true, decide_eq_true_eq] at h
  omega
theorem head_man {B most : Nat} {D1 D2 R : List Nat} {pt : Bool} (M : Man B most D1 D2 pt R) (n0 : 0 < D1.length + D2.length) : ∀ c, (D1 ++ (dot pt ++ (D2 ++ R))).head? = some c → isD B c = true ∨ c = 46 := by
  intro c h
  cases D1 with
  | cons x D1 => exact .inl (by rw [← (Option.some.inj h : x = c)]; exact M.d1 x List.mem_cons_self)
  | nil =>
    cases pt with
    | true => cases h; exact .inr rfl
    | false =>
      have e := M.np rfl
      rw [e] at n0
      cases n0
theorem no120 {D1 D2 R : List Nat} {pt : Bool} {k : Int} (M : Man 10 1300 D1 D2 pt R) (hk : tailE R k) : ∀ c ∈ D1 ++ (dot pt ++ (D2 ++ R)), c ≠ 120 := by
  intro c hc
  rcases List.mem_append.mp hc with h | h
  · have := isD10 (M.d1 c h); omega
  rcases List.mem_append.mp h with h | h
  · cases pt with
    | false => cases h
    | true => have : c = 46 := List.mem_singleton.mp h; omega
  rcases List.mem_append.mp h with h | h
  · have := isD10 (M.d2 c h); omega
  rcases hk with ⟨rfl, _⟩ | ⟨sg, Z, rfl, X, _, _⟩
  · cases h
  · rcases List.mem_cons.mp h with h | h
    · omega
    rcases List.mem_append.mp h with h | h
    · rcases X.sgn with rfl | rfl | rfl
      · cases h
      · have : c = 43 := List.mem_singleton.mp h; omega
      · have : c = 45 := List.mem_singleton.mp h; omega
    · have := isD10 (X.d c h); omega
theorem ok_parse_good {t : Str} {d : D} {μ : Mem} {Gd : D → Mem → Prop} {De : DEnds} {Ex : DEx} (hn : numT t d) (q : Gd d μ) (hr : De.rt = Gd) : t_parse_text De Ex [some (.str t), none, none, none, none, none] μ := by
  obtain ⟨nx, rt, bk, ct⟩ := De
  cases hr
  obtain ⟨fr, hfr, hN⟩ := hn
  unfold t_parse_text
  have hfl := sg_len hfr
  have zero : ∀ n : Nat, ((([] : List Nat).length + n : Nat) : Int) = (n : Int) := fun n => by rw [List.length_nil, Nat.zero_add]
  rcases hN with ⟨rfl, rfl⟩ | ⟨D1, D2, pt, sg, Z, M, n0, X, hv, rfl, rfl⟩ | ⟨D1, D2, pt, R, k, M, n0, hk, rfl, rfl⟩
  · obtain ⟨s1, s2⟩ := sg_of (R := [105, 110, 102]) hfr fun c h => by cases h; omega
    have h1 : cutS (tx (fr ++ [105, 110, 102])) (some (fr.length : Int)) (some ((fr.length : Int) + 1)) = tx ([105, 110, 102].take 1) := tx_at fr _ rfl (by omega)
    have hz : (tx (fr ++ [105, 110, 102])).length ≤ sizeLine := by rw [tx_len, sizeLine_eq, List.length_append]; simp only [List.length_cons, List.length_nil]; omega
    walk_at "d"
    refine ⟨[], fr ++ _, rfl, by simp only [List.nil_append, List.length_append, List.length_cons, List.length_nil]; omega, ?_⟩
    rw [s1, s2, zero]
    walk_at "d"
    rw [h1, s_i]
    refine e_ifT (decide_eq_true rfl) ?_
    walk_at "d"
    refine ⟨fr, rfl, by omega, ?_⟩
    walk_at "d"
    exact q
  · have l1 := M.n1
    have l2 := dot_len pt
    have l3 := sg_len X.sgn
    have l4 := X.n1
    obtain ⟨body, hbo⟩ : ∃ body, body = D1 ++ (dot pt ++ (D2 ++ (112 :: (sg ++ Z)))) := ⟨_, rfl⟩
    rw [← hbo]
    have hbl : body.length < 5000 := by rw [hbo]; simp only [List.length_append, List.length_cons]; omega
    obtain ⟨s1, s2⟩ := sg_of (R := 48 :: 120 :: body) hfr fun c h => by cases h; omega
    have h1 : cutS (tx (fr ++ (48 :: 120 :: body))) (some (fr.length : Int)) (some ((fr.length : Int) + 1)) = tx ((48 :: 120 :: body).take 1) := tx_at fr _ rfl (by omega)
    have h2 : cutS (tx (fr ++ (48 :: 120 :: body))) (some (fr.length : Int)) (some ((fr.length : Int) + 2)) = tx ((48 :: 120 :: body).take 2) := tx_at fr _ rfl (by omega)
    have hz : (tx (fr ++ (48 :: 120 :: body))).length ≤ sizeLine := by rw [tx_len, sizeLine_eq, List.length_append, List.length_cons, List.length_cons]; omega
    walk_at "d"
    refine ⟨[], fr ++ _, rfl, by simp only [List.nil_append, List.length_append, List.length_cons, List.length_nil]; omega, ?_⟩
    rw [s1, s2, zero]
    walk_at "d"
    rw [h1, s_i]
    refine e_ifF (decide_eq_false (fun z => by have := tx_eq.mp z; simp at this)) ?_
    walk_at "d"
    rw [h2, s_0x]
    refine e_ifT (decide_eq_true rfl) ?_
    walk_at "d"
    have hT2 : fr ++ (48 :: 120 :: body) = (fr ++ [48, 120]) ++ body := by simp
    refine ⟨fr ++ [48, 120], D1, D2, pt, sg, Z, by rw [← hbo, hT2, show (fr.length : Int) + 2 = (((fr ++ [48, 120]).length : Nat) : Int) by simp], by rw [List.length_append]; simp only [List.length_cons, List.length_nil]; omega, M, n0, X, hv, ?_⟩
    walk_at "d"
    exact q
  · have l1 := M.n1
    have l2 := dot_len pt
    have l3 := tail_len hk
    have hh := head_man M n0
    have hno := no120 M hk
    obtain ⟨body, hbo⟩ : ∃ body, body = D1 ++ (dot pt ++ (D2 ++ R)) := ⟨_, rfl⟩
    rw [← hbo] at hh hno ⊢
    have hbl : body.length < 5000 := by rw [hbo]; simp only [List.length_append]; omega
    have hh2 : ∀ c, body.head? = some c → c ≠ 43 ∧ c ≠ 45 ∧ c ≠ 105 := fun c hc => by
      rcases hh c hc with h | h
      · have := isD10 h; omega
      · omega
    obtain ⟨s1, s2⟩ := sg_of (R := body) hfr fun c h => ⟨(hh2 c h).1, (hh2 c h).2.1⟩
    have h1 : cutS (tx (fr ++ body)) (some (fr.length : Int)) (some ((fr.length : Int) + 1)) = tx (body.take 1) := tx_at fr _ rfl (by omega)
    have h2 : cutS (tx (fr ++ body)) (some (fr.length : Int)) (some ((fr.length : Int) + 2)) = tx (body.take 2) := tx_at fr _ rfl (by omega)
    have hz : (tx (fr ++ body)).length ≤ sizeLine := by rw [tx_len, sizeLine_eq, List.length_append]; omega
    walk_at "d"
    refine ⟨[], fr ++ body, rfl, by simp only [List.nil_append, List.length_append]; omega, ?_⟩
    rw [s1, s2, zero]
    walk_at "d"
    rw [h1, s_i, take1_eq]
    refine e_ifF (decide_eq_false (fun z => (hh2 105 z).2.2 rfl)) ?_
    walk_at "d"
    rw [h2, s_0x]
    refine e_ifF (decide_eq_false (fun z => by
      have e := tx_eq.mp z
      exact hno 120 (List.mem_of_mem_take (by rw [e]; simp)) rfl)) ?_
    walk_at "d"
    refine ⟨fr, D1, D2, pt, R, by rw [hbo], by omega, M, l3, fun h => absurd h (Nat.ne_of_gt n0), fun _ => ?_⟩
    rcases hk with ⟨rfl, rfl⟩ | ⟨sg, Z, rfl, X, hv, rfl⟩
    · refine .inl ⟨rfl, ?_⟩
      walk_at "d"
      exact q
    · refine .inr ⟨sg, Z, rfl, X.sgn, X.d, X.n1, fun _ _ => ?_, fun h => absurd h (Nat.ne_of_gt X.n0), fun i _ h => absurd h (Nat.not_lt.mpr (Nat.le_trans (valB_take (by decide) Z _) hv))⟩
      walk_at "d"
      exact q
theorem valB_mono {Z : List Nat} {a b : Nat} (h : a ≤ b) : valB 10 (Z.take a) ≤ valB 10 (Z.take b) := by
  have := valB_take (B := 10) (by decide) (Z.take b) a
  rw [List.take_take, Nat.min_eq_left h] at this
  exact this
theorem ok_parse_bad {v p : D} {μ : Mem} {De : DEnds} {Ex : DEx} (hb : badT v p) (q : ∀ σ, Ex BT PL p σ μ) : t_parse_text De Ex [some v, none, none, none, none, none] μ := by
  unfold t_parse_text
  rcases hb with ⟨rfl, rfl⟩ | ⟨rfl, rfl⟩ | ⟨l, i, rfl, rfl, hb⟩
  · walk_at "d"
    exact q _
  · walk_at "d"
    exact q _
  · obtain ⟨D1, R, rfl, M, l1, hh2, h120, hc⟩ := hb
    obtain ⟨body, hbo⟩ : ∃ body, body = D1 ++ R := ⟨_, rfl⟩
    have zero : ∀ n : Nat, ((([] : List Nat).length + n : Nat) : Int) = (n : Int) := fun n => by rw [List.length_nil, Nat.zero_add]
    rw [← hbo] at hh2 h120 l1 ⊢
    obtain ⟨s1, s2⟩ := sg_of (sg := []) (R := body) (.inl rfl) fun c h => ⟨(hh2 c h).1, (hh2 c h).2.1⟩
    have h1 : cutS (tx ([] ++ body)) (some ((([] : List Nat).length : Nat) : Int)) (some (((([] : List Nat).length : Nat) : Int) + 1)) = tx (body.take 1) := tx_at [] _ rfl (by simp)
    have h2 : cutS (tx ([] ++ body)) (some ((([] : List Nat).length : Nat) : Int)) (some (((([] : List Nat).length : Nat) : Int) + 2)) = tx (body.take 2) := tx_at [] _ rfl (by simp)
    have hz : (tx ([] ++ body)).length ≤ sizeLine := by rw [tx_len, sizeLine_eq]; simp only [List.nil_append]; omega
    show t_parse_text _ _ [some (.str (tx ([] ++ body))), none, none, none, none, none] _
    unfold t_parse_text
    walk_at "d"
    refine ⟨[], [] ++ body, rfl, by simp only [List.nil_append]; omega, ?_⟩
    rw [s1, s2, zero]
    walk_at "d"
    rw [h1, s_i, take1_eq]
    refine e_ifF (decide_eq_false (fun z => (hh2 105 z).2.2 rfl)) ?_
    walk_at "d"
    rw [h2, s_0x]
    refine e_ifF (decide_eq_false (fun z => h120 (tx_eq.mp z))) ?_
    walk_at "d"
    have lR : R.length ≤ 100 := by rw [hbo, List.length_append] at l1; omega
    refine ⟨[], D1, [], false, R, by rw [hbo]; rfl, by decide, M, Nat.le_trans lR (by decide), fun n0 => ?_, fun n0 => ?_⟩
    · rcases hc with ⟨rfl, rfl⟩ | ⟨h, _⟩ | ⟨h, _⟩
      · exact q _
      · simp only [List.length_nil] at n0; omega
      · simp only [List.length_nil] at n0; omega
    · right
      rcases hc with ⟨rfl, rfl⟩ | ⟨h, rfl, rfl⟩ | ⟨h, Z, j, rfl, hd, z0, hj, j1, j2, rfl⟩
      · exact absurd n0 (by decide)
      · refine ⟨[], [], rfl, .inl rfl, (fun c h => nomatch h), by decide, fun h => absurd h (by decide), fun _ => ?_, fun i i1 i2 => absurd i2 (by simp [valB])⟩
        have := q
        rw [show ((([] : List Nat).length + (D1.length + ((dot false).length + ([] : List Nat).length)) + 1 + ([] : List Nat).length : Nat) : Int) = (D1.length : Int) + 1 by show ((0 + (D1.length + (0 + 0)) + 1 + 0 : Nat) : Int) = _; omega]
        exact q _
      · refine ⟨[], Z, rfl, .inl rfl, hd, by rw [List.length_cons] at lR; omega, fun _ hv => ?_, fun h => by omega, fun i i1 i2 => ?_⟩
        · exact absurd hv (Nat.not_le.mpr (Nat.lt_of_lt_of_le j2 (valB_take (by decide) Z _)))
        · have e : i = j := by
            rcases Nat.lt_trichotomy i j with y | y | y
            · have := valB_mono (Z := Z) (show i + 1 ≤ j by omega); omega
            · exact y
            · have := valB_mono (Z := Z) (show j + 1 ≤ i by omega); omega
          subst e
          rw [show ((([] : List Nat).length + (D1.length + ((dot false).length + ([] : List Nat).length)) + 1 + ([] : List Nat).length : Nat) : Int) + (i : Int) = (D1.length : Int) + 1 + i by show ((0 + (D1.length + (0 + 0)) + 1 + 0 : Nat) : Int) + _ = _; omega]
          exact q _
theorem ok_parse_text : ∀ ds μ Gd Ex, F_parse_text ds μ Gd Ex → t_parse_text { nx := fun _ μ' => Gd .non μ', rt := Gd } (fun cn f x _ μ' => Ex cn f x μ') (startD 6 ds) μ := by
  rintro ds μ Gd Ex (⟨t, d, rfl, hn, q⟩ | ⟨v, p, rfl, hb, q⟩)
  · exact ok_parse_good hn q rfl
  · exact ok_parse_bad hb fun _ => q
theorem ok_i {i : Int} (h : i.natAbs < 1024) : (D.int i).ok := ok_of (d := .int i) (Nat.lt_of_lt_of_le (show i.natAbs < 2 ^ 10 from h) (Nat.pow_le_pow_right (by decide) (by decide))) (show (0 : Nat) ≤ 50 by decide)
theorem ok_s (s : String) : (D.str (PySem.Str.ofString s)).ok := ok_of (d := .str (PySem.Str.ofString s)) (strOk_of _) (show (0 : Nat) ≤ 50 by decide)
def F_read_text : DSpX := fun ds μ Gd Ex => ∃ (P : Nat) (lo hi : Int) (w : Way) (v : D), ds = [fm P lo hi, .str w.s, v] ∧ okf P lo hi ∧
  ((∃ t sg, v = .str t ∧ numT t (.tup [.int sg, .str (PySem.Str.ofString "inf")]) ∧ Gd (.tup [.int sg, .int (countF P lo hi)]) μ) ∨
   (∃ t sg n e, v = .str t ∧ numT t (.tup [.int sg, .int 2, .int n, .int e]) ∧ 0 ≤ n ∧ Bd 5200 n ∧ -5000 ≤ e ∧ e ≤ 5000 ∧ Gd (.tup [.int sg, .int (readF P lo hi w (n * 2 ^ e.toNat) (2 ^ (-e).toNat))]) μ) ∨
   (∃ t sg n q, v = .str t ∧ numT t (.tup [.int sg, .int 10, .int n, .int q]) ∧ okd n q ∧ Gd (.tup [.int sg, .int (readF P lo hi w (fN n q) (fD q))]) μ) ∨
   ∃ p, badT v p ∧ Ex BT PL p μ)
-- read_text: slots 0=form 1=way 2=value 3=sign 4=parts 5=base 6=n 7=exponent 8=num 9=den; level 6; calls count_of, parse_text, read, read_fraction, shifted
def t_read_text : DTSX :=
  dSeqX (dAsgE (dCallX F_parse_text (dAE (dCons (dVar 2) (dNil)))) (dgStar (dgName 3) (dgName 4))) (dPure (dSeq (dIfS (dTest (dOp dEq (dOp dIx (dVar 4) (dC (.int 0))) (dC (.str (PySem.Str.ofString "inf"))))) (dRet (dTup (dCons (dVar 3) (dCons (dCall F_count_of (dCons (dVar 0) (dNil))) (dNil))))) (dNext)) (dSeq (dAsg (dVar 4) (dgSeq 3 (dgCons (dgName 5) (dgCons (dgName 6) (dgCons (dgName 7) (dgNil)))))) (dSeq (dIfS (dTest (dOp dEq (dVar 5) (dC (.int 10)))) (dRet (dTup (dCons (dVar 3) (dCons (dCall F_read (dCons (dVar 0) (dCons (dVar 1) (dCons (dTup (dCons (dVar 6) (dCons (dVar 7) (dNil)))) (dNil))))) (dNil))))) (dNext)) (dSeq (dAsg (dCall F_shifted (dCons (dVar 6) (dCons (dVar 7) (dNil)))) (dgSeq 2 (dgCons (dgName 8) (dgCons (dgName 9) (dgNil))))) (dRet (dTup (dCons (dVar 3) (dCons (dCall F_read_fraction (dCons (dVar 0) (dCons (dVar 1) (dCons (dVar 8) (dCons (dVar 9) (dNil)))))) (dNil))))))))))
theorem cnt_read_text : ∀ ds μ Gd Ex, F_read_text ds μ Gd Ex → ds.length = 3 := by
  rintro ds μ Gd Ex ⟨_, _, _, _, _, rfl, _⟩; rfl
theorem ok_read_text : ∀ ds μ Gd Ex, F_read_text ds μ Gd Ex → t_read_text { nx := fun _ μ' => Gd .non μ', rt := Gd } (fun cn f x _ μ' => Ex cn f x μ') (startD 10 ds) μ := by
  rintro ds μ Gd Ex ⟨P, lo, hi, w, v, rfl, o, h⟩
  show t_read_text _ _ [some (fm P lo hi), some (.str w.s), some v, none, none, none, none, none, none, none] _
  unfold t_read_text
  rcases h with ⟨t, sg, rfl, hn, q⟩ | ⟨t, sg, n, e, rfl, hn, n0, bn, e0, e1, q⟩ | ⟨t, sg, n, z, rfl, hn, ho, q⟩ | ⟨p, hb, q⟩
  · walk_at "d"
    refine .inl ⟨t, _, rfl, hn, ?_⟩
    walk_at "d"
    refine e_gStar ?_
    walk_at "d"
    refine ⟨P, lo, hi, rfl, o, ?_⟩
    walk_at "d"
    exact q
  · walk_at "d"
    refine .inl ⟨t, _, rfl, hn, ?_⟩
    walk_at "d"
    refine e_gStar ?_
    walk_at "d"
    refine e_eq (ok_i (i := 2) (by decide)) (ok_s "inf") ?_
    rw [show (D.int 2).eqv (.str (PySem.Str.ofString "inf")) = false from rfl]
    walk_at "d"
    refine ⟨n, e, rfl, bd_up bn (by decide), by omega, by omega, ?_⟩
    walk_at "d"
    refine ⟨P, lo, hi, _, _, w, rfl, o, ⟨Int.mul_nonneg n0 (Int.le_of_lt (two_pos _)), two_pos _, bd_up (bd_mul bn (bd_pow (n := 5001) (by omega))) (by decide), bd_up (bd_pow (n := 5001) (by omega)) (by decide)⟩, ?_⟩
    walk_at "d"
    exact q
  · walk_at "d"
    refine .inl ⟨t, _, rfl, hn, ?_⟩
    walk_at "d"
    refine e_gStar ?_
    walk_at "d"
    refine e_eq (ok_i (i := 10) (by decide)) (ok_s "inf") ?_
    rw [show (D.int 10).eqv (.str (PySem.Str.ofString "inf")) = false from rfl]
    walk_at "d"
    refine ⟨P, lo, hi, n, z, w, rfl, o, ho, ?_⟩
    walk_at "d"
    exact q
  · have hv : v.fz = true := by rcases hb with ⟨rfl, _⟩ | ⟨rfl, _⟩ | ⟨_, _, rfl, _⟩ <;> rfl
    walk_at "d"
    refine e_var rfl hv ?_
    walk_at "d"
    exact .inr ⟨v, p, rfl, hb, q⟩
def F_L_fails : DSp := fun ds μ Gd => ∃ (P : Nat) (lo hi : Int) (w : Way) (v p : D), ds = [fm P lo hi, .str w.s, v] ∧ okf P lo hi ∧ badT v p ∧ Gd p μ
-- _law_fails: slots 0=_law_form_here 1=_law_way 2=_law_value 3=error; level 7; calls read_text
def t_L_fails : DTS :=
  dTryT 3 [((PySem.Str.ofString "BadText"), true)] (dRetE (dLstX (dConsX (dE (dC (.str (PySem.Str.ofString "read")))) (dConsX (dCallX F_read_text (dAE (dCons (dVar 0) (dCons (dVar 1) (dCons (dVar 2) (dNil)))))) (dAE (dNil)))))) (fun a dd cn => dRet (dXf a dd cn (PySem.Str.ofString "BadText") (PySem.Str.ofString "place") (dVar 3)))
theorem cnt_L_fails : ∀ ds μ Gd, F_L_fails ds μ Gd → ds.length = 3 := by
  rintro ds μ Gd ⟨_, _, _, _, _, _, rfl, _⟩; rfl
theorem ok_L_fails : ∀ ds μ Gd, F_L_fails ds μ Gd → t_L_fails { nx := fun _ μ' => Gd .non μ', rt := Gd } (startD 4 ds) μ := by
  rintro ds μ Gd ⟨P, lo, hi, w, v, p, rfl, o, hb, q⟩
  show t_L_fails _ [some (fm P lo hi), some (.str w.s), some v, none] _
  have hv : v.fz = true := by rcases hb with ⟨rfl, _⟩ | ⟨rfl, _⟩ | ⟨_, _, rfl, _⟩ <;> rfl
  have hp : p.fz = true := by rcases hb with ⟨_, rfl⟩ | ⟨_, rfl⟩ | ⟨_, _, _, rfl, _⟩ <;> rfl
  unfold t_L_fails
  walk_at "d"
  refine e_var rfl hv ?_
  walk_at "d"
  refine ⟨P, lo, hi, w, v, rfl, o, .inr (.inr (.inr ⟨p, hb, ?_⟩))⟩
  refine ⟨rfl, fun a dd => ?_⟩
  walk_at "d"
  exact ⟨p, rfl, rfl, q⟩
theorem man_b {D1 R : List Nat} (h1 : ∀ c ∈ D1, isD 10 c = true) (hl : D1.length ≤ 1300) (hs : ∀ c, R.head? = some c → isD 10 c = false ∧ c ≠ 46) : Man 10 1300 D1 [] false R :=
  ⟨.inl rfl, Nat.le_refl _, h1, (fun c h => nomatch h), fun _ => rfl, hl, fun c hc => ⟨(hs c hc).1, fun z => absurd z (hs c hc).2⟩⟩
theorem bad1 : badT (.str (PySem.Str.ofString "1e")) (.int 2) := .inr (.inr ⟨[49, 101], 2, by rw [show PySem.Str.ofString "1e" = tx [49, 101] by decide +kernel], rfl, [49], [101], rfl, man_b (by decide) (by decide) (by simp [isD]), by decide, by simp, by decide, .inr (.inl ⟨by decide, rfl, rfl⟩)⟩)
theorem bad2 : badT (.str (PySem.Str.ofString "x")) (.int 0) := .inr (.inr ⟨[120], 0, by rw [show PySem.Str.ofString "x" = tx [120] by decide +kernel], rfl, [], [120], rfl, man_b (by decide) (by decide) (by simp [isD]), by decide, by simp, by decide, .inl ⟨rfl, rfl⟩⟩)
theorem bad3 : badT (.str (PySem.Str.ofString "1e1201")) (.int 5) := .inr (.inr ⟨[49, 101, 49, 50, 48, 49], 5, by rw [show PySem.Str.ofString "1e1201" = tx [49, 101, 49, 50, 48, 49] by decide +kernel], rfl, [49], [101, 49, 50, 48, 49], rfl, man_b (by decide) (by decide) (by simp [isD]), by decide, by simp, by decide, .inr (.inr ⟨by decide, [49, 50, 48, 49], 3, rfl, by decide, by decide, by decide, by decide, by decide, rfl⟩)⟩)
theorem bad4 : badT (.str (PySem.Str.ofString "")) (.int 0) := .inr (.inr ⟨[], 0, by rw [show PySem.Str.ofString "" = tx [] by decide +kernel], rfl, [], [], rfl, man_b (by decide) (by decide) (by simp), by decide, by simp, by decide, .inl ⟨rfl, rfl⟩⟩)
theorem can_uniq {P : Nat} {lo hi M E c : Int} (h : can P lo hi M E) (hc : (E - lo) * 2 ^ P + M = c) : partM P c = M ∧ partE P lo c = E := by
  obtain ⟨m0, m1, l, hh, cc⟩ := h
  have hp := two_pos P
  have hs := pow_s P
  unfold partM partE
  rcases cc with w | w
  · by_cases hE : E = lo
    · subst hE
      rw [Int.sub_self, Int.zero_mul, Int.zero_add] at hc
      subst hc
      rw [if_pos m1, if_pos m1]
      exact ⟨rfl, rfl⟩
    · have h1 : 1 * 2 ^ P ≤ (E - lo) * 2 ^ P := Int.mul_le_mul_of_nonneg_right (by omega) (Int.le_of_lt hp)
      rw [if_neg (by omega), if_neg (by omega)]
      have e : c - 2 ^ (P + 1) = (M - 2 ^ P) + (E - lo - 1) * 2 ^ P := by rw [Int.sub_mul, Int.one_mul]; omega
      rw [e, Int.add_mul_emod_self_right, Int.add_mul_ediv_right _ _ (by omega), Int.emod_eq_of_lt (by omega) (by omega), Int.ediv_eq_zero_of_lt (by omega) (by omega)]
      exact ⟨by omega, by omega⟩
  · subst w
    rw [Int.sub_self, Int.zero_mul, Int.zero_add] at hc
    subst hc
    rw [if_pos m1, if_pos m1]
    exact ⟨rfl, rfl⟩
def valF (P : Nat) (lo c : Int) : Int := partM P c * 2 ^ (partE P lo c - lo + 1).toNat
theorem bd_parts2 {P : Nat} {lo hi c : Int} (o : okf P lo hi) (c0 : 0 ≤ c) (c1 : c ≤ countF P lo hi) : 0 ≤ partM P c ∧ Bd 129 (partM P c) ∧ lo ≤ partE P lo c ∧ partE P lo c ≤ hi + 1 := by
  obtain ⟨o1, o2, o3, o4⟩ := id o
  have h : c < countF P lo (hi + 1) := by
    unfold countF at c1 ⊢
    rw [show hi + 1 - lo + 2 = (hi - lo + 2) + 1 by omega, Int.add_mul, Int.one_mul]
    have := two_pos P
    omega
  obtain ⟨hcan, hsum⟩ := part_can (P := P) (lo := lo) (hi := hi + 1) (by omega) c0 h
  obtain ⟨m0, m1, l, hh, _⟩ := hcan
  have e : ((2 ^ (P + 1) : Nat) : Int) = 2 ^ (P + 1) := by rw [Int.natCast_pow]; rfl
  have hP : (2 : Int) ^ (P + 1) ≤ 2 ^ 128 := pow_le2 (by omega)
  exact ⟨m0, bd_up (to_bd (k := 128) m0 (by omega)) (by decide), l, hh⟩
theorem bd_val {P : Nat} {lo hi c : Int} (o : okf P lo hi) (c0 : 0 ≤ c) (c1 : c ≤ countF P lo hi) : Bd 3000 (valF P lo c) := by
  obtain ⟨m0, bm, e0, e1⟩ := bd_parts2 o c0 c1
  obtain ⟨o1, o2, o3, o4⟩ := id o
  exact bd_up (bd_mul bm (bd_pow (n := 2500) (by omega))) (by decide)
theorem val_succ {P : Nat} {lo hi c : Int} (hlh : lo ≤ hi) (c0 : 0 ≤ c) (c1 : c < countF P lo hi) : valF P lo (c + 1) = (partM P c + 1) * 2 ^ (partE P lo c - lo + 1).toNat := by
  obtain ⟨hcan, hsum⟩ := part_can (P := P) (lo := lo) hlh c0 c1
  obtain ⟨m0, m1, l, hh, cc⟩ := id hcan
  have hp := two_pos P
  have hs := pow_s P
  unfold valF
  by_cases hM : partM P c + 1 < 2 ^ (P + 1)
  · have hcan' : can P lo hi (partM P c + 1) (partE P lo c) := ⟨by omega, hM, l, hh, by rcases cc with w | w; exact .inl (by omega); exact .inr w⟩
    obtain ⟨u1, u2⟩ := can_uniq hcan' (show _ = c + 1 by omega)
    rw [u1, u2]
  · have hcan' : can P lo (hi + 1) (2 ^ P) (partE P lo c + 1) := ⟨by omega, by omega, by omega, by omega, .inl (Int.le_refl _)⟩
    obtain ⟨u1, u2⟩ := can_uniq hcan' (show _ = c + 1 by rw [show partE P lo c + 1 - lo = (partE P lo c - lo) + 1 by omega, Int.add_mul, Int.one_mul]; omega)
    rw [u1, u2, show partM P c + 1 = 2 ^ (P + 1) by omega, ← Int.pow_add, ← Int.pow_add]
    congr 1
    omega
theorem bd_can {P : Nat} {lo hi M E : Int} (o : okf P lo hi) (c : can P lo hi M E) : Bd 129 M := by
  have h1 : Bd 129 ((2 : Int) ^ (P + 1) - 1) := by
    have e : ((2 ^ (P + 1) : Nat) : Int) = 2 ^ (P + 1) := by rw [Int.natCast_pow]; rfl
    have : (2 : Nat) ^ (P + 1) ≤ 2 ^ 128 := Nat.pow_le_pow_right (by decide) (by have := o.1; omega)
    have := pow_pos' (P + 1)
    have e2 : (2 : Nat) ^ 129 = 2 ^ 128 + 2 ^ 128 := by rfl
    show ((2 : Int) ^ (P + 1) - 1).natAbs < 2 ^ 129
    omega
  exact bd_le c.1 (by have := c.2.1; omega) h1
theorem ne_same {a b : Str} (h : a = b) : (!decide (a = b)) = false := by rw [decide_eq_true h]; rfl
theorem shw_int {i : Int} {k : Nat} (h : Bd k i) (hk : k ≤ 1919) : (D.int i).shw := shw_of (d := .int i) (bd_up h hk) (by simp only [D.wt]; decide) (by simp only [D.dp]; decide)
theorem bd_parts {P : Nat} {lo hi c : Int} (o : okf P lo hi) (c0 : 0 ≤ c) (c1 : c < countF P lo hi) : 0 ≤ partM P c ∧ Bd 129 (partM P c) ∧ -1200 ≤ partE P lo c ∧ partE P lo c ≤ 1200 := by
  obtain ⟨hcan, hsum⟩ := part_can (P := P) (lo := lo) o.2.2.1 c0 c1
  obtain ⟨o1, o2, o3, o4⟩ := id o
  exact ⟨hcan.1, bd_can o hcan, by have := hcan.2.2.1; omega, by have := hcan.2.2.2.1; omega⟩
/-! ### the law's own numbers -/
structure sf (P : Nat) (lo : Int) (n : Nat) : Prop where
  p : P ≤ 5
  l0 : -8 ≤ lo
  l1 : lo ≤ 4
  n1 : n ≤ 8
theorem sf.okf {P : Nat} {lo : Int} {n : Nat} (s : sf P lo n) : okf P lo (lo + n) := ⟨by have := s.p; omega, by have := s.l0; omega, by omega, by have := s.l1; have := s.n1; omega⟩
theorem sf.pow {P : Nat} {lo : Int} {n : Nat} (s : sf P lo n) : (2 : Int) ^ P ≤ 32 := pow_le2 (b := 5) s.p
theorem sf.cnt {P : Nat} {lo : Int} {n : Nat} (s : sf P lo n) : 2 ≤ countF P lo (lo + n) ∧ countF P lo (lo + n) ≤ 320 := by
  have h1 := s.pow
  have h2 := two_pos P
  have h3 := s.n1
  unfold countF
  rw [show lo + (n : Int) - lo + 2 = (n : Int) + 2 by omega]
  generalize (2 : Int) ^ P = X at *
  have a1 : ((n : Int) + 2) * X ≤ 10 * X := Int.mul_le_mul_of_nonneg_right (by omega) (by omega)
  have a2 : 2 * X ≤ ((n : Int) + 2) * X := Int.mul_le_mul_of_nonneg_right (by omega) (by omega)
  omega
/-- a number's value, 256 times -/
def u8 (P : Nat) (lo c : Int) : Int := partM P c * 2 ^ (partE P lo c + 8).toNat
theorem u8_val {P : Nat} {lo : Int} {n : Nat} (s : sf P lo n) {c : Int} (c0 : 0 ≤ c) (c1 : c ≤ countF P lo (lo + n)) : 2 * u8 P lo c = valF P lo c * 2 ^ (lo + 8).toNat := by
  obtain ⟨_, _, e0, _⟩ := bd_parts2 s.okf c0 c1
  have := s.l0
  unfold u8 valF
  rw [Int.mul_assoc, ← Int.pow_add, show (partE P lo c - lo + 1).toNat + (lo + 8).toNat = (partE P lo c + 8).toNat + 1 by omega, Int.pow_succ, Int.mul_comm 2, Int.mul_assoc]
theorem u8_succ {P : Nat} {lo : Int} {n : Nat} (s : sf P lo n) {c : Int} (c0 : 0 ≤ c) (c1 : c < countF P lo (lo + n)) : u8 P lo (c + 1) = (partM P c + 1) * 2 ^ (partE P lo c + 8).toNat := by
  obtain ⟨_, _, e0, _⟩ := bd_parts2 s.okf c0 (Int.le_of_lt c1)
  have := s.l0
  have h := u8_val s (c := c + 1) (by omega) (by omega)
  rw [val_succ (hi := lo + n) (by omega) c0 c1, Int.mul_assoc, ← Int.pow_add, show (partE P lo c - lo + 1).toNat + (lo + 8).toNat = (partE P lo c + 8).toNat + 1 by omega, Int.pow_succ, ← Int.mul_assoc] at h
  omega
theorem key8 {P : Nat} {lo : Int} {n : Nat} (s : sf P lo n) {num den c t : Int} (n0 : 0 ≤ num) (d0 : 0 < den) (c0 : 0 ≤ c) (c1 : c < countF P lo (lo + n)) (t0 : 0 ≤ t) (t1 : t ≤ 2) :
    ((2 * partM P c + t) * 2 ^ (partE P lo c + 8).toNat * den ≤ 2 * (num * 256) ↔ (2 * c + t) * posD P lo (lo + n) num den ≤ 2 * posN P lo (lo + n) num den) ∧
    (2 * (num * 256) ≤ (2 * partM P c + t) * 2 ^ (partE P lo c + 8).toNat * den ↔ 2 * posN P lo (lo + n) num den ≤ (2 * c + t) * posD P lo (lo + n) num den) := by
  obtain ⟨_, _, e0, _⟩ := bd_parts2 s.okf c0 (Int.le_of_lt c1)
  have := s.l0
  have k := code_key (P := P) (hi := lo + n) (num := num) (den := den) (by omega) n0 d0 c0 c1 t0 t1
  have f := thr_form (2 * num) den (2 * partM P c + t) (partE P lo c) (x := (partE P lo c + 8).toNat) (y := 8) (by omega)
  rw [Int.mul_assoc 2 num] at f
  rw [k.1, k.2, f.1, f.2, show (2 : Int) ^ 8 = 256 from rfl, Int.mul_assoc 2 num, Int.mul_assoc _ _ den, Int.mul_comm (2 ^ _) den, ← Int.mul_assoc _ den]
  exact ⟨Iff.rfl, Iff.rfl⟩
theorem le8 {P : Nat} {lo : Int} {n : Nat} (s : sf P lo n) {num den c : Int} (n0 : 0 ≤ num) (d0 : 0 < den) (c0 : 0 ≤ c) (c1 : c < countF P lo (lo + n)) :
    (u8 P lo c * den ≤ num * 256 ↔ c * posD P lo (lo + n) num den ≤ posN P lo (lo + n) num den) ∧ (num * 256 ≤ u8 P lo c * den ↔ posN P lo (lo + n) num den ≤ c * posD P lo (lo + n) num den) := by
  have k := key8 s (t := 0) n0 d0 c0 c1 (by decide) (by decide)
  have e : (2 * partM P c + 0) * 2 ^ (partE P lo c + 8).toNat * den = 2 * (u8 P lo c * den) := by unfold u8; rw [Int.add_zero, Int.mul_assoc, Int.mul_assoc, Int.mul_assoc]
  have e2 : (2 * c + 0) * posD P lo (lo + n) num den = 2 * (c * posD P lo (lo + n) num den) := by rw [Int.add_zero, Int.mul_assoc]
  rw [e, e2] at k
  omega
theorem le8s {P : Nat} {lo : Int} {n : Nat} (s : sf P lo n) {num den c : Int} (n0 : 0 ≤ num) (d0 : 0 < den) (c0 : 0 ≤ c) (c1 : c < countF P lo (lo + n)) :
    (u8 P lo (c + 1) * den ≤ num * 256 ↔ (c + 1) * posD P lo (lo + n) num den ≤ posN P lo (lo + n) num den) := by
  have k := key8 s (t := 2) n0 d0 c0 c1 (by decide) (by decide)
  have e : (2 * partM P c + 2) * 2 ^ (partE P lo c + 8).toNat * den = 2 * (u8 P lo (c + 1) * den) := by rw [u8_succ s c0 c1, show 2 * partM P c + 2 = 2 * (partM P c + 1) by omega, Int.mul_assoc, Int.mul_assoc, Int.mul_assoc]
  have e2 : (2 * c + 2) * posD P lo (lo + n) num den = 2 * ((c + 1) * posD P lo (lo + n) num den) := by rw [show 2 * c + 2 = 2 * (c + 1) by omega, Int.mul_assoc]
  rw [e, e2] at k
  omega
theorem mid8 {P : Nat} {lo : Int} {n : Nat} (s : sf P lo n) {num den c : Int} (n0 : 0 ≤ num) (d0 : 0 < den) (c0 : 0 ≤ c) (c1 : c < countF P lo (lo + n)) :
    ((u8 P lo c + u8 P lo (c + 1)) * den ≤ 2 * (num * 256) ↔ (2 * c + 1) * posD P lo (lo + n) num den ≤ 2 * posN P lo (lo + n) num den) ∧ (2 * (num * 256) ≤ (u8 P lo c + u8 P lo (c + 1)) * den ↔ 2 * posN P lo (lo + n) num den ≤ (2 * c + 1) * posD P lo (lo + n) num den) := by
  have k := key8 s (t := 1) n0 d0 c0 c1 (by decide) (by decide)
  have e : (2 * partM P c + 1) * 2 ^ (partE P lo c + 8).toNat = u8 P lo c + u8 P lo (c + 1) := by
    rw [u8_succ s c0 c1]
    unfold u8
    rw [← Int.add_mul]
    congr 1
    omega
  rw [e] at k
  exact k
/-- beyond the last number -/
theorem read_top {P : Nat} {lo hi num den : Int} {w : Way} (hlh : lo ≤ hi) (n0 : 0 ≤ num) (d0 : 0 < den) (h : countF P lo hi * posD P lo hi num den ≤ posN P lo hi num den) : readF P lo hi w num den = greatF P lo hi w := by
  have pd := posD_pos (P := P) (lo := lo) (hi := hi) (num := num) d0
  have hc := count_ge (P := P) hlh
  have e1 : countF P lo hi * posD P lo hi num den = (countF P lo hi - 1) * posD P lo hi num den + posD P lo hi num den := by rw [Int.sub_mul, Int.one_mul]; omega
  have hl : lowC P lo hi num den = countF P lo hi - 1 := low_eq d0 (by omega) (by omega) (.inr rfl)
  rcases read_char (P := P) hlh n0 d0 with r | r
  · have := r.1
    rw [hl] at this
    omega
  · obtain ⟨_, _, r1, r2, r3, r4, r5⟩ := r
    rw [hl] at r1 r2 r3 r4 r5
    have e2 : (2 * (countF P lo hi - 1) + 1) * posD P lo hi num den = 2 * ((countF P lo hi - 1) * posD P lo hi num den) + posD P lo hi num den := by rw [Int.add_mul, Int.one_mul, Int.mul_assoc]
    rw [e2] at r4 r5
    cases w with
    | zero => exact r1
    | out => rw [r2]; show countF P lo hi - 1 + 1 = countF P lo hi; omega
    | odd => exact r3
    | even => rw [r4, if_neg (by omega), if_neg (by omega)]; show countF P lo hi - 1 + 1 = countF P lo hi; omega
    | away => rw [r5, if_neg (by omega)]; show countF P lo hi - 1 + 1 = countF P lo hi; omega
def btw : Way → Int → Int → Int
  | .zero, c, _ => c
  | .out, c, _ => c + 1
  | .odd, c, _ => c + 1 - c % 2
  | .away, c, s => if s < 0 then c else c + 1
  | .even, c, s => if s < 0 then c else if s = 0 then c + c % 2 else c + 1
theorem read_btw {P : Nat} {lo : Int} {n : Nat} (s : sf P lo n) {num den : Int} {w : Way} (n0 : 0 ≤ num) (d0 : 0 < den) (h : u8 P lo (lowC P lo (lo + n) num den) * den ≠ num * 256) :
    readF P lo (lo + n) w num den = btw w (lowC P lo (lo + n) num den) (2 * (num * 256) - (u8 P lo (lowC P lo (lo + n) num den) + u8 P lo (lowC P lo (lo + n) num den + 1)) * den) := by
  have hlh : lo ≤ lo + n := by omega
  obtain ⟨k0, k1⟩ := lowC_in (P := P) hlh n0 d0
  have hm := mid8 s n0 d0 k0 k1
  have hl := le8 s n0 d0 k0 k1
  rcases read_char (P := P) hlh n0 d0 with r | r
  · exact absurd (by have := r.1; omega) h
  · obtain ⟨_, _, r1, r2, r3, r4, r5⟩ := r
    clear hl h
    generalize lowC P lo (lo + n) num den = c at *
    generalize (u8 P lo c + u8 P lo (c + 1)) * den = A at *
    generalize (2 * c + 1) * posD P lo (lo + n) num den = B at *
    cases w with
    | zero => exact r1
    | out => exact r2
    | odd => exact r3
    | even =>
      rw [r4]
      unfold btw
      dsimp only
      by_cases z1 : 2 * (num * 256) - A < 0
      · rw [if_pos z1, if_pos (by omega)]
      · rw [if_neg z1, if_neg (by omega)]
        by_cases z2 : 2 * (num * 256) - A = 0
        · rw [if_pos z2, if_pos (by omega)]
        · rw [if_neg z2, if_neg (by omega)]
    | away =>
      rw [r5]
      unfold btw
      dsimp only
      by_cases z1 : 2 * (num * 256) - A < 0
      · rw [if_pos z1, if_pos (by omega)]
      · rw [if_neg z1, if_neg (by omega)]
theorem read_eq8 {P : Nat} {lo : Int} {n : Nat} (s : sf P lo n) {num den : Int} {w : Way} (n0 : 0 ≤ num) (d0 : 0 < den) (h : u8 P lo (lowC P lo (lo + n) num den) * den = num * 256) : readF P lo (lo + n) w num den = lowC P lo (lo + n) num den := by
  have hlh : lo ≤ lo + n := by omega
  obtain ⟨k0, k1⟩ := lowC_in (P := P) hlh n0 d0
  have hl := le8 s n0 d0 k0 k1
  rcases read_char (P := P) hlh n0 d0 with r | r
  · exact r.2 w
  · have := r.1
    omega
theorem max0 (k : Int) : (if k > 0 then k else 0) = (k.toNat : Int) := by split <;> omega
theorem p10_bd (k : Nat) : Bd (4 * k + 1) ((10 : Int) ^ k) := by
  show ((10 : Int) ^ k).natAbs < 2 ^ (4 * k + 1)
  rw [Int.natAbs_pow]
  refine Nat.lt_of_le_of_lt (Nat.pow_le_pow_left (show (10 : Int).natAbs ≤ 2 ^ 4 by decide) k) ?_
  rw [← Nat.pow_mul]
  exact Nat.pow_lt_pow_right (by decide) (by omega)
def F_L_power : DSp := fun ds μ Gd => ∃ k : Nat, ds = [.int 10, .int k] ∧ k ≤ 2000 ∧ Gd (.int (10 ^ k)) μ
-- _law_power: slots 0=_law_base 1=_law_number 2=_law_found 3=_law_k; level 1; calls 
def t_L_power : DTS :=
  dSeq (dAsg (dC (.int 1)) (dgName 2)) (dSeq (dFor (dRng1 (dCons (dVar 1) (dNil))) (dgName 3) (dAsg (dOp dMul (dVar 2) (dVar 0)) (dgName 2))) (dRet (dVar 2)))
theorem cnt_L_power : ∀ ds μ Gd, F_L_power ds μ Gd → ds.length = 2 := by
  rintro ds μ Gd ⟨i, rfl, _⟩; rfl
theorem ok_L_power : ∀ ds μ Gd, F_L_power ds μ Gd → t_L_power { nx := fun _ μ' => Gd .non μ', rt := Gd } (startD 4 ds) μ := by
  rintro ds μ Gd ⟨k, rfl, k1, q⟩
  show t_L_power _ [some (.int 10), some (.int k), none, none] _
  unfold t_L_power
  walk_at "d"
  rw [Int.toNat_natCast]
  refine loop_inv (fun i σ μ' => i ≤ k ∧ (∃ z, σ = [some (.int 10), some (.int k), some (.int (10 ^ i)), z]) ∧ μ' = μ) _ 0 _ μ ⟨Nat.zero_le _, ⟨none, rfl⟩, rfl⟩ ?_ ?_
  · rintro i x σ μ' K e ⟨hi0, ⟨z, rfl⟩, rfl⟩ hK
    have hi := (List.getElem?_eq_some_iff.mp e).1
    rw [rngD_len] at hi
    rw [Nat.zero_add] at hK ⊢
    walk_at "d"
    refine e_mulI (mul_ok (bd_up (p10_bd i) (show _ ≤ 8002 by omega)) (j := 4) (by decide) (by decide)) ?_
    walk_at "d"
    rw [← Int.pow_succ]
    exact hK _ _ ⟨by omega, ⟨_, rfl⟩, rfl⟩
  · rintro σ μ' ⟨hi0, ⟨z, rfl⟩, rfl⟩
    rw [Nat.zero_add, rngD_len]
    walk_at "d"
    exact q
def F_L_form : DSp := fun ds μ Gd => ∃ N : Int, ds = [.box 0] ∧ DK N μ ∧ N + 10 < 1000000000000 ∧ ∀ (P : Nat) (lo : Int) (n : Nat) μ', sf P lo n → DK (N + 5) μ' → Gd (fm P lo (lo + n)) μ'
-- _law_form: slots 0=_law_deck_here 1=_law_low; level 2; calls _law_draw
def t_L_form : DTS :=
  dSeq (dAsg (dOp dSub (dCall F_L_draw (dCons (dVar 0) (dCons (dC (.int 13)) (dNil)))) (dC (.int 8))) (dgName 1)) (dRet (dTup (dCons (dOp dAdd (dC (.int 1)) (dCall F_L_draw (dCons (dVar 0) (dCons (dC (.int 6)) (dNil))))) (dCons (dVar 1) (dCons (dOp dAdd (dVar 1) (dCall F_L_draw (dCons (dVar 0) (dCons (dCB dMin2 (dCons (dC (.int 9)) (dCons (dOp dSub (dC (.int 9)) (dVar 1)) (dNil)))) (dNil))))) (dNil))))))
theorem cnt_L_form : ∀ ds μ Gd, F_L_form ds μ Gd → ds.length = 1 := by
  rintro ds μ Gd ⟨a, rfl, _⟩; rfl
theorem ok_L_form : ∀ ds μ Gd, F_L_form ds μ Gd → t_L_form { nx := fun _ μ' => Gd .non μ', rt := Gd } (startD 2 ds) μ := by
  rintro ds μ Gd ⟨N, rfl, hk, hN, q⟩
  show t_L_form _ [some (.box 0), none] _
  unfold t_L_form
  walk_at "d"
  refine ⟨13, N, rfl, by omega, by omega, hk, by omega, fun a1 μ1 a10 a11 hk1 => ?_⟩
  walk_at "d"
  refine ⟨6, N + 1, rfl, by omega, by omega, hk1, by omega, fun a2 μ2 a20 a21 hk2 => ?_⟩
  walk_at "d"
  obtain ⟨m, hm, m0, m1⟩ : ∃ m : Int, (if 9 - (a1 - 8) < 9 then 9 - (a1 - 8) else 9) = m ∧ 0 < m ∧ m ≤ 9 := ⟨_, rfl, by split <;> omega, by split <;> omega⟩
  rw [hm]
  refine ⟨m, N + 1 + 1, rfl, by omega, by omega, hk2, by omega, fun a3 μ3 a30 a31 hk3 => ?_⟩
  walk_at "d"
  have h := q a2.toNat (a1 - 8) a3.toNat μ3 ⟨by omega, by omega, by omega, by omega⟩ (hk3.mono (by omega))
  unfold fm at h
  rw [show ((a2.toNat : Nat) : Int) + 1 = 1 + a2 by omega, show ((a3.toNat : Nat) : Int) = a3 by omega] at h
  exact h
/-- the values of the first so many codes -/
def vs8 (P : Nat) (lo : Int) (k : Nat) : List D := (List.range k).map fun c : Nat => D.int (u8 P lo (c : Int))
theorem vs8_app {P : Nat} {lo : Int} {k m : Nat} {l : List D} (hl : l.length = m) (h : ∀ i, i < m → l[i]? = some (.int (u8 P lo ((k + i : Nat) : Int)))) : vs8 P lo k ++ l = vs8 P lo (k + m) := by
  subst hl
  unfold vs8
  rw [List.range_add, List.map_append, List.map_map]
  congr 1
  refine List.ext_getElem? fun i => ?_
  rcases Nat.lt_or_ge i l.length with z | z
  · rw [h i z, List.getElem?_map, List.getElem?_range z]; rfl
  · rw [List.getElem?_eq_none z, List.getElem?_eq_none (by rw [List.length_map, List.length_range]; exact z)]
theorem vs8_len (P : Nat) (lo : Int) (k : Nat) : (vs8 P lo k).length = k := by unfold vs8; rw [List.length_map, List.length_range]
theorem u8_low {P : Nat} {lo : Int} {c : Int} (c0 : 0 ≤ c) (c1 : c < 2 ^ (P + 1)) : u8 P lo c = c * 2 ^ (lo + 8).toNat := by
  unfold u8 partM partE
  rw [if_pos c1, if_pos c1]
theorem u8_at {P : Nat} {lo : Int} {n : Nat} (s : sf P lo n) {c m e : Int} (e0 : lo < e) (e1 : e ≤ lo + n + 1) (m0 : 2 ^ P ≤ m) (m1 : m < 2 ^ (P + 1)) (hc : (e - lo) * 2 ^ P + m = c) : u8 P lo c = m * 2 ^ (e + 8).toNat := by
  have hcan : can P lo (lo + n + 1) m e := ⟨by have := two_pos P; omega, m1, by omega, by omega, .inl m0⟩
  obtain ⟨h1, h2⟩ := can_uniq hcan hc
  unfold u8
  rw [h1, h2]
def F_L_numbers : DSp := fun ds μ Gd => ∃ (P : Nat) (lo : Int) (n : Nat), ds = [fm P lo (lo + n)] ∧ sf P lo n ∧ Gd (.lst (vs8 P lo ((countF P lo (lo + n)).toNat + 1))) μ
-- _law_numbers: slots 0=_law_form_here 1=_law_p 2=_law_low 3=_law_high 4=_law_found 5=_law_e 6=_law_m; level 1; calls 
def t_L_numbers : DTS :=
  dSeq (dAsg (dVar 0) (dgSeq 3 (dgCons (dgName 1) (dgCons (dgName 2) (dgCons (dgName 3) (dgNil)))))) (dSeq (dAsg (dLc (dRng1 (dCons (dOp dShl (dC (.int 1)) (dVar 1)) (dNil))) (dgName 6) (dYes) (dOp dShl (dVar 6) (dOp dAdd (dVar 2) (dC (.int 8)))) [6]) (dgName 4)) (dSeq (dFor (dRngW (dCons (dOp dAdd (dVar 2) (dC (.int 1))) (dCons (dOp dAdd (dVar 3) (dC (.int 1))) (dNil)))) (dgName 5) (dAsg (dOp dAdd (dVar 4) (dLc (dRngW (dCons (dOp dShl (dC (.int 1)) (dOp dSub (dVar 1) (dC (.int 1)))) (dCons (dOp dShl (dC (.int 1)) (dVar 1)) (dNil)))) (dgName 6) (dYes) (dOp dShl (dVar 6) (dOp dAdd (dVar 5) (dC (.int 8)))) [6])) (dgName 4))) (dRet (dOp dAdd (dVar 4) (dLst (dCons (dOp dShl (dC (.int 1)) (dOp dAdd (dOp dAdd (dVar 1) (dVar 3)) (dC (.int 8)))) (dNil)))))))
theorem cnt_L_numbers : ∀ ds μ Gd, F_L_numbers ds μ Gd → ds.length = 1 := by
  rintro ds μ Gd ⟨_, _, _, rfl, _⟩; rfl
theorem ok_L_numbers : ∀ ds μ Gd, F_L_numbers ds μ Gd → t_L_numbers { nx := fun _ μ' => Gd .non μ', rt := Gd } (startD 7 ds) μ := by
  rintro ds μ Gd ⟨P, lo, n, rfl, s, q⟩
  show t_L_numbers _ [some (.tup [.int (P + 1), .int lo, .int (lo + n)]), none, none, none, none, none, none] _
  unfold t_L_numbers
  have hp := s.pow
  have hP := two_pos P
  have h5 := s.p
  have hl0 := s.l0
  have hl1 := s.l1
  have hn1 := s.n1
  obtain ⟨X, hX⟩ : ∃ X : Nat, (2 : Int) ^ P = X := ⟨2 ^ P, by push_cast; rfl⟩
  have hX2 : (2 : Int) ^ (P + 1) = ((2 * X : Nat) : Int) := by rw [Int.pow_succ, hX]; push_cast; omega
  have hXb : 1 ≤ X ∧ X ≤ 32 := by omega
  have hc : (countF P lo (lo + n)).toNat = 2 * X + n * X := by
    unfold countF
    rw [hX, show lo + (n : Int) - lo + 2 = ((n + 2 : Nat) : Int) by omega]
    have : ((n + 2 : Nat) : Int) * (X : Int) = (((n + 2) * X : Nat) : Int) := by push_cast; rfl
    rw [this, Int.toNat_natCast, Nat.add_mul, Nat.add_comm]
  have grow : ∀ {k j : Nat} {acc : List D} {x : Int}, acc.length = j → (∀ t, t < j → acc[t]? = some (.int (u8 P lo ((k + t : Nat) : Int)))) → x = u8 P lo ((k + j : Nat) : Int) → (acc ++ [D.int x]).length = j + 1 ∧ ∀ t, t < j + 1 → (acc ++ [D.int x])[t]? = some (.int (u8 P lo ((k + t : Nat) : Int))) := by
    intro k j acc x hl ha hx
    refine ⟨by rw [List.length_append, hl]; rfl, fun t ht => ?_⟩
    rcases Nat.lt_or_ge t j with z | z
    · rw [List.getElem?_append_left (by omega)]; exact ha t z
    · rw [List.getElem?_append_right (by omega), show t - acc.length = 0 by omega, show t = j by omega, hx]; rfl
  walk_at "d"
  refine e_shlN (n := 2) (P + 1) (by omega) (bd_small 2 (by decide)) (by omega) ?_
  rw [Int.one_mul, hX2]
  walk_at "d"
  rw [Int.toNat_natCast]
  refine lc_inv (fun i acc μ' => μ' = μ ∧ i ≤ 2 * X ∧ acc.length = i ∧ ∀ t, t < i → acc[t]? = some (.int (u8 P lo ((0 + t : Nat) : Int)))) _ 0 [] _ ⟨rfl, Nat.zero_le _, rfl, fun t ht => absurd ht (Nat.not_lt_zero _)⟩ ?_ ?_
  · rintro i x acc μ' K e ⟨rfl, hi, hl, ha⟩ hK
    rw [Nat.zero_add] at hi hl hK
    simp only [Nat.zero_add] at ha
    obtain ⟨hi2, rfl⟩ := rng_at12 e
    walk_at "d"
    refine e_shlN (n := 20) (lo + 8).toNat (by omega) (bd_small 20 (by omega)) (by omega) ?_
    refine ⟨by rw [hl, sizeLine_eq]; omega, hK _ _ ⟨rfl, hi2, ?_⟩⟩
    have g := grow (k := 0) hl (by simpa only [Nat.zero_add] using ha) (x := (0 + (i : Int)) * 2 ^ (lo + 8).toNat) (by rw [u8_low (by omega) (by rw [hX2]; omega)]; push_cast; rfl)
    simpa only [Nat.zero_add] using g
  rintro acc μ' ⟨rfl, _, hl, ha⟩
  rw [rngD_len, Nat.zero_add] at hl
  rw [rngD_len, Nat.zero_add] at ha
  have e0 : acc = vs8 P lo (2 * X) := by
    have := vs8_app (P := P) (lo := lo) (k := 0) hl ha
    rw [Nat.zero_add] at this
    exact this
  rw [e0]
  clear e0 ha hl acc
  walk_at "d"
  rw [show (lo + (n : Int) + 1 - (lo + 1)).toNat = n by omega]
  refine loop_inv (fun i σ μ2 => μ2 = μ' ∧ i ≤ n ∧ ∃ z, σ = [some (.tup [.int (P + 1), .int lo, .int (lo + n)]), some (.int (P + 1)), some (.int lo), some (.int (lo + n)), some (.lst (vs8 P lo (2 * X + i * X))), z, none]) _ 0 _ _ ⟨rfl, Nat.zero_le _, none, by rw [Nat.zero_mul, Nat.add_zero]; rfl⟩ ?_ ?_
  · rintro i x σ μ2 K e ⟨rfl, hi, z, rfl⟩ hK
    rw [Nat.zero_add] at hi hK ⊢
    obtain ⟨hi2, rfl⟩ := rng_at12 e
    have hiX : i * X ≤ 8 * 32 := Nat.mul_le_mul (by omega) hXb.2
    walk_at "d"
    refine e_shlN (n := 2) P (by omega) (bd_small 2 (by decide)) (by omega) ?_
    rw [Int.one_mul, hX]
    walk_at "d"
    refine e_shlN (n := 2) (P + 1) (by omega) (bd_small 2 (by decide)) (by omega) ?_
    rw [Int.one_mul, hX2]
    walk_at "d"
    rw [show (((2 * X : Nat) : Int) - (X : Int)).toNat = X by omega]
    refine lc_inv (fun j acc μ' => μ' = μ2 ∧ j ≤ X ∧ acc.length = j ∧ ∀ t, t < j → acc[t]? = some (.int (u8 P lo ((2 * X + i * X + t : Nat) : Int)))) _ 0 [] _ ⟨rfl, Nat.zero_le _, rfl, fun t ht => absurd ht (Nat.not_lt_zero _)⟩ ?_ ?_
    · rintro j x acc μ' K e ⟨rfl, hj, hl, ha⟩ hK
      rw [Nat.zero_add] at hj hl hK
      simp only [Nat.zero_add] at ha
      obtain ⟨hj2, rfl⟩ := rng_at12 e
      walk_at "d"
      refine e_shlN (n := 20) (lo + 1 + (i : Int) + 8).toNat (by omega) (bd_small 20 (by omega)) (by omega) ?_
      refine ⟨by rw [hl, sizeLine_eq]; omega, hK _ _ ⟨rfl, hj2, ?_⟩⟩
      exact grow hl ha (x := ((X : Int) + (j : Int)) * 2 ^ (lo + 1 + (i : Int) + 8).toNat) (by
        rw [u8_at s (e := lo + 1 + i) (m := (X : Int) + j) (by omega) (by omega) (by omega) (by rw [hX2]; omega)]
        rw [show lo + 1 + (i : Int) - lo = ((i + 1 : Nat) : Int) by omega, hX]
        push_cast
        rw [Int.add_mul, Int.one_mul]
        omega)
    · rintro acc μ' ⟨rfl, _, hl, ha⟩
      rw [rngD_len, Nat.zero_add] at hl
      rw [rngD_len, Nat.zero_add] at ha
      refine e_addL rfl rfl (by rw [vs8_len, hl, sizeLine_eq]; omega) ?_
      rw [vs8_app hl ha]
      walk_at "d"
      refine hK _ _ ⟨rfl, hi2, some (.int (lo + 1 + i)), ?_⟩
      rw [show 2 * X + (i + 1) * X = 2 * X + i * X + X by rw [Nat.add_mul, Nat.one_mul, Nat.add_assoc]]
      rfl
  · rintro σ μ2 ⟨rfl, _, z, rfl⟩
    rw [rngD_len, Nat.zero_add]
    walk_at "d"
    refine e_shlN (n := 2) (P + 1 + (lo + n + 8).toNat) (by omega) (bd_small 2 (by decide)) (by omega) ?_
    rw [Int.one_mul]
    have hnX : n * X ≤ 8 * 32 := Nat.mul_le_mul (by omega) hXb.2
    walk_at "d"
    refine e_addL rfl rfl (by rw [vs8_len, sizeLine_eq]; show _ + 1 ≤ _; omega) ?_
    have h := u8_at s (c := ((2 * X + n * X : Nat) : Int)) (e := lo + n + 1) (m := 2 ^ P) (by omega) (Int.le_refl _) (Int.le_refl _) (by rw [pow_s]; omega) (by
      rw [show lo + (n : Int) + 1 - lo = ((n + 1 : Nat) : Int) by omega, hX]
      push_cast
      rw [Int.add_mul, Int.one_mul]
      omega)
    rw [vs8_app (P := P) (lo := lo) (k := 2 * X + n * X) (m := 1) rfl (fun i hi => by
      obtain rfl : i = 0 := by omega
      show some (D.int (2 ^ (P + 1 + (lo + (n : Int) + 8).toNat))) = some (D.int (u8 P lo ((2 * X + n * X : Nat) : Int)))
      rw [h, ← Int.pow_add, show P + 1 + (lo + (n : Int) + 8).toNat = P + (lo + (n : Int) + 1 + 8).toNat by omega]), ← hc]
    exact q
theorem e_getD {ta tb tc : DTE} {σ : DSt} {μ : Mem} {Q : D → Mem → Prop} (h : ta σ μ fun x μ1 => ∃ l, x = .dct l ∧ tb σ μ1 fun y μ2 => ∃ z, y = .str z ∧ tc σ μ2 fun d μ3 => Q (match lookD l z with | some i => .int i | none => d) μ3) : dGetD ta tb tc σ μ Q := h
def F_L_between : DSp := fun ds μ Gd => ∃ (w : Way) (c s : Int), ds = [.str w.s, .int c, .int s] ∧ Gd (.int (btw w c s)) μ
-- _law_between: slots 0=_law_way 1=_law_code_here 2=_law_side 3=_law_odd; level 1; calls 
def t_L_between : DTS :=
  dSeq (dAsg (dOp dSub (dOp dAdd (dVar 1) (dC (.int 1))) (dOp dMod (dCB dInt1 (dCons (dVar 1) (dNil))) (dC (.int 2)))) (dgName 3)) (dSeq (dIfS (dTest (dOp (dIn false) (dVar 0) (dTup (dCons (dC (.str (PySem.Str.ofString "zero"))) (dCons (dC (.str (PySem.Str.ofString "out"))) (dCons (dC (.str (PySem.Str.ofString "odd"))) (dNil))))))) (dRet (dOp dIxD (dDisp [((PySem.Str.ofString "zero"), dVar 1), ((PySem.Str.ofString "out"), dOp dAdd (dVar 1) (dC (.int 1))), ((PySem.Str.ofString "odd"), dVar 3)]) (dVar 0))) (dNext)) (dSeq (dIfS (dTest (dOp dEq (dVar 2) (dC (.int 0)))) (dRet (dIf (dTest (dOp dEq (dVar 0) (dC (.str (PySem.Str.ofString "away"))))) (dOp dAdd (dVar 1) (dC (.int 1))) (dOp dAdd (dVar 1) (dOp dMod (dCB dInt1 (dCons (dVar 1) (dNil))) (dC (.int 2)))))) (dNext)) (dRet (dOp dAdd (dVar 1) (dCB dInt1 (dCons (dOp dGt (dVar 2) (dC (.int 0))) (dNil)))))))
theorem cnt_L_between : ∀ ds μ Gd, F_L_between ds μ Gd → ds.length = 3 := by
  rintro ds μ Gd ⟨_, _, _, rfl, _⟩; rfl
theorem ok_L_between : ∀ ds μ Gd, F_L_between ds μ Gd → t_L_between { nx := fun _ μ' => Gd .non μ', rt := Gd } (startD 4 ds) μ := by
  rintro ds μ Gd ⟨w, c, s, rfl, q⟩
  show t_L_between _ [some (.str w.s), some (.int c), some (.int s), none] _
  unfold t_L_between
  cases w with
  | zero =>
    walk_at "d"
    refine e_disp ?_
    refine e_dispI ?_
    walk_at "d"
    refine e_dispI ?_
    walk_at "d"
    refine e_dispI ?_
    walk_at "d"
    refine e_disp0 ?_
    walk_at "d"
    refine e_ixD (i := c) (by rfl) ?_
    exact q
  | out =>
    walk_at "d"
    refine e_disp ?_
    refine e_dispI ?_
    walk_at "d"
    refine e_dispI ?_
    walk_at "d"
    refine e_dispI ?_
    walk_at "d"
    refine e_disp0 ?_
    walk_at "d"
    refine e_ixD (i := c + 1) (by rfl) ?_
    exact q
  | odd =>
    walk_at "d"
    refine e_disp ?_
    refine e_dispI ?_
    walk_at "d"
    refine e_dispI ?_
    walk_at "d"
    refine e_dispI ?_
    walk_at "d"
    refine e_disp0 ?_
    walk_at "d"
    refine e_ixD (i := c + 1 - c % 2) (by rfl) ?_
    exact q
  | even =>
    unfold btw at q
    dsimp only at q
    walk_at "d"
    refine e_if (fun h => ?_) (fun h => ?_)
    · rw [if_neg (by omega), if_pos h] at q
      walk_at "d"
      exact q
    · walk_at "d"
      by_cases h2 : 0 < s
      · rw [if_neg (by omega), if_neg h] at q
        rw [if_pos (decide_eq_true h2)]
        exact q
      · rw [if_pos (by omega)] at q
        rw [if_neg (by rw [decide_eq_false h2]; decide), Int.add_zero]
        exact q
  | away =>
    unfold btw at q
    dsimp only at q
    walk_at "d"
    refine e_if (fun h => ?_) (fun h => ?_)
    · rw [if_neg (by omega)] at q
      walk_at "d"
      exact q
    · walk_at "d"
      by_cases h2 : 0 < s
      · rw [if_neg (by omega)] at q
        rw [if_pos (decide_eq_true h2)]
        exact q
      · rw [if_pos (by omega)] at q
        rw [if_neg (by rw [decide_eq_false h2]; decide), Int.add_zero]
        exact q
/-- a comprehension that keeps the ints of a test -/
theorem lc_keep {gt : DTG} {tt : DTT} {te : DTE} {σw : DSt} {μ : Mem} {Q : List D → Mem → Prop} (p : Int → Bool) (L : List Int) (hL : L.length < 5000)
    (hs : ∀ (i : Int) (acc : List D) (K : List D → Mem → Prop), i ∈ L → acc.length < sizeLine → (p i = true → K (acc ++ [.int i]) μ) → (p i = false → K acc μ) → gt (.int i) σw μ fun σ2 μ2 => tt σ2 μ2 fun b μ3 => if b = true then te σ2 μ3 fun x μ4 => acc.length < sizeLine ∧ K (acc ++ [x]) μ4 else K acc μ3)
    (hd : Q ((L.filter p).map D.int) μ) : dLcLoop gt tt te σw (L.map D.int) [] μ Q := by
  refine lc_inv (fun k acc μ' => μ' = μ ∧ acc = ((L.take k).filter p).map D.int) _ 0 [] _ ⟨rfl, rfl⟩ ?_ ?_
  · rintro k x acc μ' K e ⟨rfl, rfl⟩ hK
    rw [Nat.zero_add] at hK ⊢
    rw [List.getElem?_map] at e
    obtain ⟨i, ei, rfl⟩ := Option.map_eq_some_iff.mp e
    have ht : L.take (k + 1) = L.take k ++ [i] := by rw [List.take_add_one, ei]; rfl
    rw [ht] at hK
    refine hs i _ K (List.mem_of_getElem? ei) ?_ (fun hp => hK _ _ ⟨rfl, ?_⟩) (fun hp => hK _ _ ⟨rfl, ?_⟩)
    · have := List.length_filter_le p (L.take k)
      rw [List.length_take] at this
      rw [List.length_map, sizeLine_eq]
      omega
    · rw [List.filter_append, List.filter_cons_of_pos hp, List.filter_nil, List.map_append]; rfl
    · rw [List.filter_append, List.filter_cons_of_neg (by rw [hp]; decide), List.filter_nil, List.append_nil]
  · rintro acc μ' ⟨rfl, rfl⟩
    rw [Nat.zero_add, List.length_map, List.take_length]
    exact hd
/-- how many of the first keep a test that holds below k alone -/
theorem count_low {p : Int → Bool} {f : Nat → Int} {k : Nat} : ∀ m : Nat, (∀ i, i < m → (p (f i) = true ↔ i < k)) → (((List.range m).map f).filter p).length = min m k
  | 0, _ => by simp
  | m + 1, h => by
    rw [List.range_succ, List.map_append, List.filter_append, List.length_append, count_low m fun i hi => h i (by omega)]
    have hm := h m (by omega)
    show _ + ([f m].filter p).length = _
    cases q : p (f m) with
    | true =>
      have := hm.mp q
      rw [List.filter_cons_of_pos q]
      show min m k + 1 = _
      omega
    | false =>
      have : ¬ m < k := fun z => by rw [hm.mpr z] at q; cases q
      rw [List.filter_cons_of_neg (by rw [q]; decide)]
      show min m k + 0 = _
      omega
theorem vs8_map (P : Nat) (lo : Int) (k : Nat) : vs8 P lo k = ((List.range k).map fun c : Nat => u8 P lo (c : Int)).map D.int := by
  unfold vs8
  rw [List.map_map]
  rfl
theorem vs8_get {P : Nat} {lo : Int} {k i : Nat} (h : i < k) : (vs8 P lo k)[i]? = some (.int (u8 P lo (i : Int))) := by
  unfold vs8
  rw [List.getElem?_map, List.getElem?_range h]
  rfl
theorem vs8_ix {P : Nat} {lo : Int} {k : Nat} {i : Int} (h0 : 0 ≤ i) (h : i < k) : atI (vs8 P lo k) i = some (.int (u8 P lo i)) := by
  obtain ⟨j, rfl⟩ := Int.eq_ofNat_of_zero_le h0
  have hk : (vs8 P lo k).length = k := vs8_len P lo k
  unfold L2.atI
  rw [show ixN (vs8 P lo k).length (j : Int) = some j from ?_]
  · exact vs8_get (by omega)
  · rw [hk]
    unfold ixN
    rw [if_pos h0, if_pos h, Int.toNat_natCast]
def F_L_code : DSp := fun ds μ Gd => ∃ (P : Nat) (lo : Int) (n : Nat) (w : Way) (num den : Int), ds = [.lst (vs8 P lo ((countF P lo (lo + n)).toNat + 1)), .str w.s, .int num, .int den] ∧ sf P lo n ∧ 0 ≤ num ∧ 0 < den ∧ Bd 5000 num ∧ Bd 5000 den ∧ Gd (.int (readF P lo (lo + n) w num den)) μ
theorem u8_bd {P : Nat} {lo : Int} {n : Nat} (s : sf P lo n) {c : Int} (c0 : 0 ≤ c) (c1 : c ≤ countF P lo (lo + n)) : Bd 160 (u8 P lo c) := by
  obtain ⟨_, p1, e0, e1⟩ := bd_parts2 s.okf c0 c1
  have h2 := s.l0
  have h3 := s.l1
  have h4 := s.n1
  exact bd_up (bd_mul p1 (bd_pow (n := 30) (by omega))) (by decide)
-- _law_code: slots 0=_law_values 1=_law_way 2=_law_num 3=_law_den 4=_law_top 5=_law_x 6=_law_code_here 7=_law_value; level 2; calls _law_between
def t_L_code : DTS :=
  dSeq (dAsg (dTup (dCons (dOp dSub (dCB dLen (dCons (dVar 0) (dNil))) (dC (.int 1))) (dCons (dOp dMul (dVar 2) (dC (.int 256))) (dNil)))) (dgSeq 2 (dgCons (dgName 4) (dgCons (dgName 5) (dgNil))))) (dSeq (dIfS (dTest (dOp dGe (dVar 5) (dOp dMul (dOp dIx (dVar 0) (dVar 4)) (dVar 3)))) (dRet (dGetD (dDisp [((PySem.Str.ofString "zero"), dOp dSub (dVar 4) (dC (.int 1))), ((PySem.Str.ofString "odd"), dOp dSub (dVar 4) (dOp dMod (dCB dInt1 (dCons (dOp dAdd (dVar 4) (dC (.int 1))) (dNil))) (dC (.int 2))))]) (dVar 1) (dVar 4))) (dNext)) (dSeq (dAsg (dOp dSub (dCB dLen (dCons (dLc (dItL (dVar 0)) (dgName 7) (dTest (dOp dLe (dOp dMul (dVar 7) (dVar 3)) (dVar 5))) (dVar 7) [7]) (dNil))) (dC (.int 1))) (dgName 6)) (dSeq (dIfS (dTest (dOp dEq (dOp dMul (dOp dIx (dVar 0) (dVar 6)) (dVar 3)) (dVar 5))) (dRet (dVar 6)) (dNext)) (dRet (dCall F_L_between (dCons (dVar 1) (dCons (dVar 6) (dCons (dOp dSub (dOp dMul (dC (.int 2)) (dVar 5)) (dOp dMul (dOp dAdd (dOp dIx (dVar 0) (dVar 6)) (dOp dIx (dVar 0) (dOp dAdd (dVar 6) (dC (.int 1))))) (dVar 3))) (dNil)))))))))
theorem cnt_L_code : ∀ ds μ Gd, F_L_code ds μ Gd → ds.length = 4 := by
  rintro ds μ Gd ⟨_, _, _, _, _, _, rfl, _⟩; rfl
theorem ok_L_code : ∀ ds μ Gd, F_L_code ds μ Gd → t_L_code { nx := fun _ μ' => Gd .non μ', rt := Gd } (startD 8 ds) μ := by
  rintro ds μ Gd ⟨P, lo, n, w, num, den, rfl, s, n0, d0, bn, bd, q⟩
  show t_L_code _ [some (.lst (vs8 P lo ((countF P lo (lo + n)).toNat + 1))), some (.str w.s), some (.int num), some (.int den), none, none, none, none] _
  unfold t_L_code
  have hc := s.cnt
  obtain ⟨T, hT⟩ : ∃ T : Nat, countF P lo (lo + n) = T := ⟨(countF P lo (lo + n)).toNat, by omega⟩
  have hTn : (countF P lo (lo + n)).toNat = T := by omega
  have hlh : lo ≤ lo + n := by omega
  rw [hTn]
  have top : u8 P lo (T : Int) * den ≤ num * 256 ↔ countF P lo (lo + n) * posD P lo (lo + n) num den ≤ posN P lo (lo + n) num den := by
    have h := le8s s (c := (T : Int) - 1) n0 d0 (by omega) (by omega)
    rw [show (T : Int) - 1 + 1 = T by omega] at h
    rw [hT]
    exact h
  walk_at "d"
  rw [vs8_len]
  refine e_mulI (mul_ok bn (j := 20) (bd_small 20 (by decide)) (by decide)) ?_
  walk_at "d"
  refine e_ix rfl (vs8_ix (by omega) (by omega)) ?_
  rw [show ((T + 1 : Nat) : Int) - 1 = T by omega]
  walk_at "d"
  refine e_mulI (mul_ok (u8_bd s (by omega) (by omega)) bd (by decide)) ?_
  walk_at "d"
  refine e_if (fun h => ?_) (fun h => ?_)
  · rw [read_top hlh n0 d0 (top.mp (by omega))] at q
    unfold greatF at q
    rw [hT] at q
    walk_at "d"
    refine e_getD ?_
    refine e_disp ?_
    refine e_dispI ?_
    walk_at "d"
    refine e_dispI ?_
    walk_at "d"
    refine e_disp0 ?_
    refine ⟨_, rfl, ?_⟩
    walk_at "d"
    cases w with
    | zero => exact q
    | odd =>
      dsimp only at q
      rw [show (T : Int) - 1 + 1 - ((T : Int) - 1) % 2 = T - (T + 1) % 2 by omega] at q
      exact q
    | even => exact q
    | away => exact q
    | out => exact q
  · obtain ⟨k0, k1⟩ := lowC_in (P := P) hlh n0 d0
    have low : ∀ c : Nat, c < T + 1 → (decide (u8 P lo (c : Int) * den ≤ num * 256) = true ↔ c < (lowC P lo (lo + n) num den).toNat + 1) := by
      intro c hc
      rcases Nat.lt_or_ge c T with z | z
      · rw [decide_eq_true_iff, (le8 s n0 d0 (by omega) (by omega)).1]
        have pd := posD_pos (P := P) (lo := lo) (hi := lo + n) (num := num) d0
        constructor
        · intro y
          have := low_ge d0 (by omega) y
          omega
        · intro y
          have a : lowC P lo (lo + n) num den * posD P lo (lo + n) num den ≤ posN P lo (lo + n) num den := by
            rcases read_char (P := P) hlh n0 d0 with r | r
            · have := r.1; omega
            · have := r.1; omega
          exact Int.le_trans (Int.mul_le_mul_of_nonneg_right (by omega) (by omega)) a
      · obtain rfl : c = T := by omega
        rw [decide_eq_true_iff]
        omega
    walk_at "d"
    have hm := vs8_map P lo (T + 1)
    obtain ⟨V, hV⟩ : ∃ V, V = vs8 P lo (T + 1) := ⟨_, rfl⟩
    have hix : ∀ i : Int, 0 ≤ i → i ≤ T → atI V i = some (.int (u8 P lo i)) := fun i h0 h1 => by rw [hV]; exact vs8_ix h0 (by omega)
    rw [← hV] at hm ⊢
    clear hV
    suffices hh : ∀ W : List D, W = ((List.range (T + 1)).map fun c : Nat => u8 P lo (c : Int)).map D.int → dLcLoop (dgName 7) (dTest (dOp dLe (dOp dMul (dVar 7) (dVar 3)) (dVar 5))) (dVar 7) (hideD (([some (D.lst V), some (D.str w.s), some (D.int num), some (D.int den), none, none, none, none].set 4 (some (D.int T))).set 5 (some (D.int (num * 256)))) [7]) W [] μ _ from hh V hm
    rintro _ rfl
    refine lc_keep (fun i => decide (i * den ≤ num * 256)) _ (by rw [List.length_map, List.length_range]; omega) ?_ ?_
    · intro i acc K hi ha h1 h2
      obtain ⟨c, hc, rfl⟩ := List.mem_map.mp hi
      rw [List.mem_range] at hc
      walk_at "d"
      refine e_mulI (mul_ok (u8_bd s (by omega) (by omega)) bd (by decide)) ?_
      walk_at "d"
      refine e_if (fun z => ?_) (fun z => ?_)
      · walk_at "d"
        exact h1 (decide_eq_true z)
      · walk_at "d"
        exact h2 (decide_eq_false z)
    · walk_at "d"
      rw [List.length_map, count_low (T + 1) low, show min (T + 1) ((lowC P lo (lo + n) num den).toNat + 1) = (lowC P lo (lo + n) num den).toNat + 1 by omega, show (((lowC P lo (lo + n) num den).toNat + 1 : Nat) : Int) - 1 = lowC P lo (lo + n) num den by omega]
      refine e_ix rfl (hix _ (by omega) (by omega)) ?_
      walk_at "d"
      refine e_mulI (mul_ok (u8_bd s (by omega) (by omega)) bd (by decide)) ?_
      walk_at "d"
      refine e_if (fun z => ?_) (fun z => ?_)
      · walk_at "d"
        rw [read_eq8 s n0 d0 z] at q
        exact q
      · rw [read_btw s n0 d0 z] at q
        walk_at "d"
        refine e_mulI (mul_ok (bd_small 10 (by decide)) (bd_mul bn (show Bd 20 256 from bd_small 20 (by decide))) (by decide)) ?_
        walk_at "d"
        refine e_ix rfl (hix _ (by omega) (by omega)) ?_
        walk_at "d"
        refine e_ix rfl (hix _ (by omega) (by omega)) ?_
        walk_at "d"
        refine e_mulI (mul_ok (bd_add (u8_bd s (by omega) (by omega)) (u8_bd s (by omega) (by omega))) bd (by decide)) ?_
        walk_at "d"
        exact ⟨w, _, _, rfl, q⟩
/-! ### the texts of whole numbers -/
def decL (n : Nat) : List Nat := (Nat.toDigits 10 n).map Char.toNat
def sgd (i : Int) : List Nat := if i < 0 then [45] else []
theorem dec_str (i : Int) : PySem.Str.ofString (toString i) = tx (sgd i ++ decL i.natAbs) := by
  rw [PySem.Str.ofString_eq_toList]
  unfold decL sgd
  cases i with
  | ofNat n =>
    rw [show toString (Int.ofNat n) = Nat.repr n from rfl, Nat.toList_repr, if_neg (show ¬ Int.ofNat n < 0 from Int.not_lt.mpr (Int.natCast_nonneg n))]; rfl
  | negSucc n =>
    rw [if_pos (by omega)]
    rw [show (toString (Int.negSucc n)).toList = '-' :: Nat.toDigits 10 (n + 1) from by
      show (("-" : String) ++ Nat.repr (n + 1)).toList = _
      rw [String.toList_append, Nat.toList_repr]; rfl]
    rfl
theorem dec_facts : ∀ (m n : Nat), n ≤ m → (∀ c ∈ decL n, isD 10 c = true) ∧ valB 10 (decL n) = n ∧ 0 < (decL n).length ∧ ∀ j, 0 < j → n < 10 ^ j → (decL n).length ≤ j
  | m, n, h => by
    have hc : ∀ k < 10, isD 10 (Nat.digitChar k).toNat = true ∧ dg (Nat.digitChar k).toNat = k := by decide
    by_cases hl : n < 10
    · have e : decL n = [(Nat.digitChar n).toNat] := by unfold decL; rw [Nat.toDigits_of_lt_base hl]; rfl
      rw [e]
      refine ⟨fun c hm => by rw [List.mem_singleton.mp hm]; exact (hc n hl).1, ?_, Nat.one_pos, fun j hj _ => hj⟩
      show 0 * 10 + dg (Nat.digitChar n).toNat = n
      rw [(hc n hl).2]; omega
    · cases m with
      | zero => omega
      | succ m =>
        obtain ⟨a, b, c, d⟩ := dec_facts m (n / 10) (by omega)
        have e : decL n = decL (n / 10) ++ [(Nat.digitChar (n % 10)).toNat] := by unfold decL; rw [Nat.toDigits_of_base_le (by decide) (by omega), List.map_append]; rfl
        obtain ⟨d1, d2⟩ := hc (n % 10) (by omega)
        rw [e]
        refine ⟨fun x hx => ?_, ?_, by rw [List.length_append]; exact Nat.lt_add_left _ Nat.one_pos, fun j hj hn => ?_⟩
        · rcases List.mem_append.mp hx with hx | hx
          · exact a x hx
          · rw [List.mem_singleton.mp hx]; exact d1
        · rw [valB_snoc, b, d2]; omega
        · obtain ⟨i, rfl⟩ : ∃ i, j = i + 1 := ⟨j - 1, by omega⟩
          have i0 : 0 < i := by
            rcases Nat.eq_zero_or_pos i with z | z
            · subst z; exact absurd hn hl
            · exact z
          have := d i i0 (by rw [Nat.pow_succ] at hn; omega)
          rw [List.length_append]
          exact Nat.add_le_add_right this 1
theorem dec_d (n : Nat) : ∀ c ∈ decL n, isD 10 c = true := (dec_facts n n (Nat.le_refl _)).1
theorem dec_v (n : Nat) : valB 10 (decL n) = n := (dec_facts n n (Nat.le_refl _)).2.1
theorem dec_0 (n : Nat) : 0 < (decL n).length := (dec_facts n n (Nat.le_refl _)).2.2.1
theorem dec_l {n j : Nat} (hj : 0 < j) (h : n < 10 ^ j) : (decL n).length ≤ j := (dec_facts n n (Nat.le_refl _)).2.2.2 j hj h
theorem dec_X {i : Int} (h : i.natAbs < 10 ^ 90) : Exq (sgd i) (decL i.natAbs) := ⟨by unfold sgd; split <;> simp, dec_d _, dec_0 _, Nat.le_trans (dec_l (j := 90) (by decide) h) (by decide)⟩
theorem dec_E (i : Int) : expI (sgd i) (decL i.natAbs) = i := by
  unfold expI sgd
  rw [dec_v]
  by_cases h : i < 0
  · rw [if_pos h, if_pos rfl]; omega
  · rw [if_neg h, if_neg (by decide)]; omega
/-- a decimal written as a whole number and a power of ten -/
theorem num_dec {n : Nat} {k : Int} (hn : n < 10 ^ 1290) (hk : k.natAbs ≤ 1200) {fr : List Nat} (hf : fr = [] ∨ fr = [43] ∨ fr = [45]) : numT (tx (fr ++ (decL n ++ (101 :: (sgd k ++ decL k.natAbs))))) (.tup [.int (sgV fr), .int 10, .int n, .int k]) := by
  have hl := dec_l (j := 1290) (by decide) hn
  refine ⟨fr, hf, .inr (.inr ⟨decL n, [], false, 101 :: (sgd k ++ decL k.natAbs), k, man_b (dec_d n) (by omega) (fun c h => ?_), Nat.lt_of_lt_of_le (dec_0 n) (Nat.le_add_right _ _), .inr ⟨_, _, rfl, dec_X (Nat.lt_of_le_of_lt hk (by decide)), by rw [dec_v]; exact hk, (dec_E k).symm⟩, rfl, ?_⟩)⟩
  · obtain rfl : 101 = c := Option.some.inj h
    decide
  · rw [List.append_nil, dec_v]
    show _ = D.tup [_, _, _, .int (k - ((0 : Nat) : Int))]
    rw [show k - ((0 : Nat) : Int) = k by omega]
/-- a hex text of four signs, a point and two -/
theorem num_hex {H : List Nat} {k : Int} (hH : H.length = 6) (hd : ∀ c ∈ H, isD 16 c = true) (hk : (k + 8).natAbs ≤ 1400) {fr : List Nat} (hf : fr = [] ∨ fr = [43] ∨ fr = [45]) : numT (tx (fr ++ (48 :: 120 :: (H.take 4 ++ (46 :: (H.drop 4 ++ (112 :: (sgd (k + 8) ++ decL (k + 8).natAbs)))))))) (.tup [.int (sgV fr), .int 2, .int (valB 16 H : Nat), .int k]) := by
  have h4 : (H.take 4).length = 4 := by rw [List.length_take]; omega
  have h2 : (H.drop 4).length = 2 := by rw [List.length_drop]; omega
  refine ⟨fr, hf, .inr (.inl ⟨H.take 4, H.drop 4, true, _, _, ⟨.inr rfl, by decide, fun c h => hd c (List.mem_of_mem_take h), fun c h => hd c (List.mem_of_mem_drop h), (fun h => nomatch h), by omega, fun c h => ?_⟩, by omega, dec_X (i := k + 8) (Nat.lt_of_le_of_lt hk (by decide)), by rw [dec_v]; exact hk, rfl, ?_⟩)⟩
  · obtain rfl : 112 = c := Option.some.inj h
    decide
  · rw [List.take_append_drop, dec_E]
    unfold behI
    rw [if_pos rfl, h2, show k + 8 - 4 * ((2 : Nat) : Int) = k by omega]
def hexc (r : Nat) : Nat := if r < 10 then 48 + r else 87 + r
theorem hexc_f : ∀ r < 16, isD 16 (hexc r) = true ∧ dg (hexc r) = r ∧ (PySem.Str.ofString "0123456789abcdef").cps[r]? = some (hexc r) := by decide +kernel
theorem foldB (B : Nat) : ∀ (l : List Nat) (n : Nat), l.foldl (fun n c => n * B + dg c) n = n * B ^ l.length + valB B l
  | [], n => by show n = n * 1 + 0; omega
  | c :: l, n => by
    show l.foldl _ (n * B + dg c) = _
    have h2 : valB B (c :: l) = l.foldl (fun n c => n * B + dg c) (0 * B + dg c) := rfl
    rw [h2, foldB B l, foldB B l (0 * B + dg c), List.length_cons, Nat.pow_succ, Nat.zero_mul, Nat.zero_add, Nat.add_mul, Nat.mul_assoc, Nat.mul_comm B, Nat.add_assoc]
theorem valB_cons (B c : Nat) (l : List Nat) : valB B (c :: l) = dg c * B ^ l.length + valB B l := by
  show l.foldl _ (0 * B + dg c) = _
  rw [foldB, Nat.zero_mul, Nat.zero_add]
/-- a text and the number that it tells -/
structure txtG (t : Str) (num den : Int) : Prop where
  n0 : 0 ≤ num
  d0 : 0 < den
  bn : Bd 5000 num
  bd : Bd 5000 den
  ex : ∃ body : List Nat, t = tx body ∧ body.length ≤ 2000 ∧
    ((∃ n e : Int, (∀ fr : List Nat, (fr = [] ∨ fr = [43] ∨ fr = [45]) → numT (tx (fr ++ body)) (.tup [.int (sgV fr), .int 2, .int n, .int e])) ∧ 0 ≤ n ∧ Bd 5200 n ∧ -5000 ≤ e ∧ e ≤ 5000 ∧ num = n * 2 ^ e.toNat ∧ den = 2 ^ (-e).toNat) ∨
     (∃ n q : Int, (∀ fr : List Nat, (fr = [] ∨ fr = [43] ∨ fr = [45]) → numT (tx (fr ++ body)) (.tup [.int (sgV fr), .int 10, .int n, .int q])) ∧ okd n q ∧ num = fN n q ∧ den = fD q))
theorem lim_of {i : Int} (h : Bd 14000 i) : i.natAbs < Lim := Nat.lt_of_lt_of_le h (by unfold Lim; decide +kernel)
theorem s_em : PySem.Str.ofString "e-" = tx [101, 45] := by decide +kernel
def F_L_near_middle : DSp := fun ds μ Gd => ∃ (P : Nat) (lo : Int) (n : Nat) (N : Int), ds = [.box 0, .lst (vs8 P lo ((countF P lo (lo + n)).toNat + 1))] ∧ sf P lo n ∧ DK N μ ∧ 0 ≤ N ∧ N + 10 < 1000000000000 ∧
  ∀ t num den μ', txtG t num den → DK (N + 10) μ' → Gd (.lst [.str t, .lst [.int num, .int den]]) μ'
-- _law_near_middle: slots 0=_law_deck_here 1=_law_values 2=_law_at 3=_law_many 4=_law_scale 5=_law_number; level 2; calls _law_draw, _law_power
def t_L_near_middle : DTS :=
  dSeq (dAsg (dCall F_L_draw (dCons (dVar 0) (dCons (dOp dSub (dCB dLen (dCons (dVar 1) (dNil))) (dC (.int 1))) (dNil)))) (dgName 2)) (dSeq (dAsg (dOp dIx (dLst (dCons (dC (.int 1)) (dCons (dC (.int 6)) (dCons (dCall F_L_draw (dCons (dVar 0) (dCons (dC (.int 1191)) (dNil)))) (dNil))))) (dCall F_L_draw (dCons (dVar 0) (dCons (dC (.int 3)) (dNil))))) (dgName 3)) (dSeq (dAsg (dCall F_L_power (dCons (dC (.int 10)) (dCons (dVar 3) (dNil)))) (dgName 4)) (dSeq (dAsg (dOp dSub (dOp dAdd (dOp dMul (dOp dMul (dOp dAdd (dOp dIx (dVar 1) (dVar 2)) (dOp dIx (dVar 1) (dOp dAdd (dVar 2) (dC (.int 1))))) (dOp dPow (dC (.int 5)) (dC (.int 9)))) (dVar 4)) (dCall F_L_draw (dCons (dVar 0) (dCons (dC (.int 3)) (dNil))))) (dC (.int 1))) (dgName 5)) (dRet (dLst (dCons (dOp dCatS (dOp dCatS (dCB dStrB (dCons (dVar 5) (dNil))) (dC (.str (PySem.Str.ofString "e-")))) (dCB dStrB (dCons (dOp dAdd (dC (.int 9)) (dVar 3)) (dNil)))) (dCons (dLst (dCons (dVar 5) (dCons (dOp dMul (dOp dPow (dC (.int 10)) (dC (.int 9))) (dVar 4)) (dNil)))) (dNil))))))))
theorem cnt_L_near_middle : ∀ ds μ Gd, F_L_near_middle ds μ Gd → ds.length = 2 := by
  rintro ds μ Gd ⟨_, _, _, _, rfl, _⟩; rfl
theorem u8_nn {P : Nat} {lo c : Int} (c0 : 0 ≤ partM P c) : 0 ≤ u8 P lo c := Int.mul_nonneg c0 (Int.le_of_lt (two_pos _))
theorem u8_small {P : Nat} {lo : Int} {n : Nat} (s : sf P lo n) {c : Int} (c0 : 0 ≤ c) (c1 : c ≤ countF P lo (lo + n)) : u8 P lo c ≤ 10 ^ 9 := by
  obtain ⟨p0, _, e0, e1⟩ := bd_parts2 s.okf c0 c1
  have hp := s.pow
  have hP := two_pos P
  have h2 := s.l0
  have h3 := s.l1
  have h4 := s.n1
  have hm : partM P c ≤ 64 := by
    unfold partM
    have := Int.emod_lt_of_pos c hP
    split
    · rename_i h; rw [Int.pow_succ] at h; omega
    · omega
  unfold u8
  exact Int.le_trans (Int.mul_le_mul hm (pow_le2 (b := 21) (show (partE P lo c + 8).toNat ≤ 21 by omega)) (Int.le_of_lt (two_pos _)) (by decide)) (by decide)
theorem u8_pos {P : Nat} {lo : Int} {n : Nat} (s : sf P lo n) {c : Int} (c0 : 0 ≤ c) (c1 : c < countF P lo (lo + n)) : 0 < u8 P lo (c + 1) := by
  rw [u8_succ s c0 c1]
  exact Int.mul_pos (by have := (bd_parts2 s.okf c0 (Int.le_of_lt c1)).1; omega) (two_pos _)
theorem ok_L_near_middle : ∀ ds μ Gd, F_L_near_middle ds μ Gd → t_L_near_middle { nx := fun _ μ' => Gd .non μ', rt := Gd } (startD 6 ds) μ := by
  rintro ds μ Gd ⟨P, lo, n, N, rfl, s, hk, hN0, hN, q⟩
  show t_L_near_middle _ [some (.box 0), some (.lst (vs8 P lo ((countF P lo (lo + n)).toNat + 1))), none, none, none, none] _
  unfold t_L_near_middle
  have hc := s.cnt
  obtain ⟨T, hT⟩ : ∃ T : Nat, countF P lo (lo + n) = T := ⟨(countF P lo (lo + n)).toNat, by omega⟩
  have hTn : (countF P lo (lo + n)).toNat = T := by omega
  rw [hTn]
  walk_at "d"
  rw [vs8_len]
  refine ⟨((T + 1 : Nat) : Int) - 1, N, rfl, by omega, by omega, hk, by omega, fun c μ1 c0 c1 hk1 => ?_⟩
  walk_at "d"
  refine ⟨1191, N + 1, rfl, by omega, by omega, hk1, by omega, fun a2 μ2 a20 a21 hk2 => ?_⟩
  walk_at "d"
  refine ⟨3, N + 1 + 1, rfl, by omega, by omega, hk2, by omega, fun a3 μ3 a30 a31 hk3 => ?_⟩
  walk_at "d"
  obtain ⟨w, e1w, hw⟩ := atI_mem (l := [D.int 1, .int 6, .int a2]) a30 a31
  obtain ⟨m, rfl, m1⟩ : ∃ m : Nat, w = .int m ∧ m ≤ 1190 := by
    simp only [List.mem_cons, List.not_mem_nil, or_false] at hw
    rcases hw with rfl | rfl | rfl
    · exact ⟨1, rfl, by omega⟩
    · exact ⟨6, rfl, by omega⟩
    · exact ⟨a2.toNat, by congr 1; omega, by omega⟩
  refine e_ix rfl e1w ?_
  clear hw e1w
  walk_at "d"
  refine ⟨m, rfl, by omega, ?_⟩
  have h0 := u8_small s (c := c) c0 (by omega)
  have h1 := u8_small s (c := c + 1) (by omega) (by omega)
  have h2 := u8_pos s (c := c) c0 (by omega)
  have h3 := u8_nn (P := P) (lo := lo) (c := c) (bd_parts2 s.okf c0 (by omega)).1
  walk_at "d"
  refine e_ix rfl (vs8_ix c0 (by omega)) ?_
  walk_at "d"
  refine e_ix rfl (vs8_ix (by omega) (by omega)) ?_
  walk_at "d"
  obtain ⟨S, hS⟩ : ∃ S : Nat, u8 P lo c + u8 P lo (c + 1) = S := ⟨(u8 P lo c + u8 P lo (c + 1)).toNat, by omega⟩
  have hS1 : 1 ≤ S ∧ S ≤ 2000000000 := by
    have : (10 : Int) ^ 9 = 1000000000 := rfl
    omega
  rw [hS, show (5 : Int) ^ Int.toNat 9 = 1953125 from rfl]
  refine e_mulI (mul_ok (i := 40) (j := 40) (bd_small 40 (by omega)) (bd_small 40 (by decide)) (by decide)) ?_
  walk_at "d"
  have hb := p10_bd m
  have b1 : Bd (80 + 4801) ((S : Int) * 1953125 * 10 ^ m) := bd_mul (bd_mul (i := 40) (j := 40) (bd_small 40 (by omega)) (bd_small 40 (by decide))) (bd_up hb (by omega))
  refine e_mulI (mul_ok (bd_mul (i := 40) (j := 40) (bd_small 40 (by omega)) (bd_small 40 (by decide))) (bd_up hb (show _ ≤ 4801 by omega)) (by decide)) ?_
  walk_at "d"
  refine ⟨3, N + 1 + 1 + 1, rfl, by omega, by omega, hk3, by omega, fun a4 μ4 a40 a41 hk4 => ?_⟩
  obtain ⟨Y, hY, hY2, hY3⟩ : ∃ Y : Nat, (S : Int) * 1953125 * 10 ^ m = Y ∧ 1 ≤ Y ∧ Y < 10 ^ 1280 := by
    refine ⟨S * 1953125 * 10 ^ m, by rw [Int.natCast_mul, Int.natCast_mul, Int.natCast_pow]; rfl, Nat.mul_pos (by omega) (Nat.pow_pos (by decide)), ?_⟩
    calc S * 1953125 * 10 ^ m < 10 ^ 16 * 10 ^ m := Nat.mul_lt_mul_of_pos_right (by omega) (Nat.pow_pos (by decide))
      _ = 10 ^ (16 + m) := (Nat.pow_add _ _ _).symm
      _ ≤ 10 ^ 1280 := Nat.pow_le_pow_right (by decide) (by omega)
  rw [hY] at b1 ⊢
  walk_at "d"
  obtain ⟨A, hA⟩ : ∃ A : Nat, (Y : Int) + a4 - 1 = A := ⟨((Y : Int) + a4 - 1).toNat, by omega⟩
  rw [hA]
  have hA1 : A < 10 ^ 1290 := Nat.lt_of_le_of_lt (show A ≤ Y + 1 by clear hY3; omega) (Nat.lt_of_le_of_lt hY3 (Nat.pow_lt_pow_right (by decide) (by decide)))
  have hAb : Bd 4890 (A : Int) := by
    rw [← hA, show (Y : Int) + a4 - 1 = Y + (a4 - 1) by omega]
    exact bd_up (bd_add (k := 4881) b1 (bd_small 4881 (Nat.lt_of_lt_of_le (show (a4 - 1).natAbs < 2 ^ 2 by clear hY3 hA1; omega) (Nat.pow_le_pow_right (by decide) (by decide))))) (by decide)
  walk_at "d"
  refine e_strB (lim_of (bd_up hAb (by decide))) ?_
  have eA : PySem.Str.ofString (toString ((A : Nat) : Int)) = tx (decL A) := by
    rw [dec_str]
    unfold sgd
    rw [if_neg (by clear hY3 hA1; omega)]
    rfl
  have em : PySem.Str.ofString (toString (9 + (m : Int))) = tx (decL (9 + m)) := by
    rw [show 9 + (m : Int) = ((9 + m : Nat) : Int) by push_cast; rfl, dec_str]
    unfold sgd
    rw [if_neg (by clear hY3 hA1; omega)]
    rfl
  have lA := dec_l (j := 1290) (by decide) hA1
  have lm := dec_l (n := 9 + m) (j := 4) (by decide) (by clear hY3 hA1; omega)
  rw [eA]
  walk_at "d"
  refine e_catS (by rw [tx_len, s_em, tx_len, sizeLine_eq]; simp only [List.length_cons, List.length_nil]; clear hY3 hA1; omega) ?_
  rw [s_em, tx_app]
  walk_at "d"
  refine e_strB (lim_of (bd_up (bd_small 20 (by clear hY3 hA1; omega)) (by decide))) ?_
  rw [em]
  refine e_catS (by rw [tx_len, tx_len, sizeLine_eq, List.length_append]; simp only [List.length_cons, List.length_nil]; clear hY3 hA1; omega) ?_
  rw [tx_app]
  walk_at "d"
  refine e_mulI (mul_ok (i := 40) (bd_small 40 (by decide)) (bd_up hb (show _ ≤ 4801 by clear hY3 hA1; omega)) (by decide)) ?_
  walk_at "d"
  have hq : (-(-((9 + m : Nat) : Int))).toNat = 9 + m := by clear hY3 hA1; omega
  have hd : (10 : Int) ^ Int.toNat 9 * 10 ^ m = 10 ^ (9 + m) := by rw [show Int.toNat 9 = 9 from rfl, Int.pow_add]
  rw [hd]
  refine q _ _ _ _ ⟨Int.natCast_nonneg A, Int.pow_pos (by decide), bd_up hAb (by decide), bd_up (p10_bd (9 + m)) (by clear hY3 hA1; omega), _, rfl, ?_, .inr ⟨A, -((9 + m : Nat) : Int), fun fr hf => ?_, ⟨Int.natCast_nonneg A, bd_up hAb (by decide), by clear hY3 hA1; omega, by clear hY3 hA1; omega⟩, ?_, ?_⟩⟩ (hk4.mono (by clear hY3 hA1; omega))
  · simp only [List.length_append, List.length_cons, List.length_nil]; clear hY3 hA1; omega
  · have h := num_dec (k := -((9 + m : Nat) : Int)) hA1 (by clear hY3 hA1; omega) hf
    rw [show sgd (-((9 + m : Nat) : Int)) = [45] by unfold sgd; rw [if_pos (by clear hY3 hA1; omega)], show (-((9 + m : Nat) : Int)).natAbs = 9 + m by clear hY3 hA1; omega] at h
    rw [List.append_assoc]
    exact h
  · unfold fN
    rw [show (-((9 + m : Nat) : Int)).toNat = 0 by clear hY3 hA1; omega, Int.pow_zero, Int.mul_one]
  · unfold fD
    rw [hq]
theorem tx_cutL (l : List Nat) {j : Nat} (h : j ≤ l.length) : cutS (tx l) none (some (j : Int)) = tx (l.take j) := by
  unfold cutS
  rw [HT.sIx_none, HT.sIx_nat, tx_len, Nat.min_eq_left h]
  rfl
theorem tx_cutR (l : List Nat) {i : Nat} (h : i ≤ l.length) : cutS (tx l) (some (i : Int)) none = tx (l.drop i) := by
  unfold cutS
  rw [HT.sIx_none, HT.sIx_nat, tx_len, Nat.min_eq_left h]
  show (⟨((l.drop i).take (l.length - i)).toArray⟩ : Str) = ⟨(l.drop i).toArray⟩
  rw [List.take_of_length_le (by rw [List.length_drop]; exact Nat.le_refl _)]
def F_L_text : DSp := fun ds μ Gd => ∃ (P : Nat) (lo : Int) (n : Nat) (N : Int), ds = [.box 0, .lst (vs8 P lo ((countF P lo (lo + n)).toNat + 1))] ∧ sf P lo n ∧ DK N μ ∧ 0 ≤ N ∧ N + 20 < 1000000000000 ∧
  ∀ t num den μ', txtG t num den → DK (N + 20) μ' → Gd (.lst [.str t, .lst [.int num, .int den]]) μ'
-- _law_text: slots 0=_law_deck_here 1=_law_values 2=_law_way 3=_law_number 4=_law_k 5=_law_signs 6=_law_left 7=_law_shown 8=_law_turn; level 3; calls _law_draw, _law_near_middle, _law_power
def t_L_text : DTS :=
  dSeq (dPar 2 3 (dCons (dCall F_L_draw (dCons (dVar 0) (dCons (dC (.int 4)) (dNil)))) (dCons (dCall F_L_draw (dCons (dVar 0) (dCons (dOp dIx (dLst (dCons (dC (.int 10)) (dCons (dC (.int 1000)) (dCons (dOp dPow (dC (.int 10)) (dC (.int 6))) (dNil))))) (dCall F_L_draw (dCons (dVar 0) (dCons (dC (.int 3)) (dNil))))) (dNil)))) (dNil)))) (dSeq (dIfS (dTest (dOp dEq (dVar 2) (dC (.int 0)))) (dRet (dCall F_L_near_middle (dCons (dVar 0) (dCons (dVar 1) (dNil))))) (dNext)) (dSeq (dIfS (dTest (dOp dEq (dVar 2) (dC (.int 1)))) (dSeq (dAsg (dOp dSub (dCall F_L_draw (dCons (dVar 0) (dCons (dC (.int 31)) (dNil)))) (dC (.int 18))) (dgName 4)) (dSeq (dPar3 5 6 7 (dCons (dC (.str (PySem.Str.ofString "0123456789abcdef"))) (dCons (dVar 3) (dCons (dC (.str (PySem.Str.ofString ""))) (dNil))))) (dSeq (dFor (dRng1 (dCons (dC (.int 6)) (dNil))) (dgName 8) (dPar 7 6 (dCons (dOp dCatS (dOp dIxS (dVar 5) (dOp dMod (dCB dInt1 (dCons (dVar 6) (dNil))) (dC (.int 16)))) (dVar 7)) (dCons (dOp dFdiv (dVar 6) (dC (.int 16))) (dNil))))) (dSeq (dAsg (dOp dCatS (dOp dCatS (dOp dCatS (dOp dCatS (dOp dCatS (dC (.str (PySem.Str.ofString "0x"))) (dSlS (dVar 7) (dNoPart) (dPart (dC (.int 4))))) (dC (.str (PySem.Str.ofString ".")))) (dSlS (dVar 7) (dPart (dC (.int 4))) (dNoPart))) (dC (.str (PySem.Str.ofString "p")))) (dCB dStrB (dCons (dOp dAdd (dVar 4) (dC (.int 8))) (dNil)))) (dgName 7)) (dRet (dLst (dCons (dVar 7) (dCons (dLst (dCons (dOp dShl (dVar 3) (dCB dMax2 (dCons (dC (.int 0)) (dCons (dVar 4) (dNil))))) (dCons (dOp dShl (dC (.int 1)) (dCB dMax2 (dCons (dC (.int 0)) (dCons (dOp dSub (dC (.int 0)) (dVar 4)) (dNil))))) (dNil)))) (dNil))))))))) (dNext)) (dSeq (dAsg (dOp dSub (dCall F_L_draw (dCons (dVar 0) (dCons (dC (.int 13)) (dNil)))) (dC (.int 7))) (dgName 4)) (dRet (dLst (dCons (dOp dCatS (dOp dCatS (dCB dStrB (dCons (dVar 3) (dNil))) (dC (.str (PySem.Str.ofString "e")))) (dCB dStrB (dCons (dVar 4) (dNil)))) (dCons (dLst (dCons (dOp dMul (dVar 3) (dCall F_L_power (dCons (dC (.int 10)) (dCons (dCB dMax2 (dCons (dC (.int 0)) (dCons (dVar 4) (dNil)))) (dNil))))) (dCons (dCall F_L_power (dCons (dC (.int 10)) (dCons (dCB dMax2 (dCons (dC (.int 0)) (dCons (dOp dSub (dC (.int 0)) (dVar 4)) (dNil)))) (dNil)))) (dNil)))) (dNil))))))))
theorem cnt_L_text : ∀ ds μ Gd, F_L_text ds μ Gd → ds.length = 2 := by
  rintro ds μ Gd ⟨_, _, _, _, rfl, _⟩; rfl
def hexRest : DTS :=
  dSeq (dAsg (dOp dCatS (dOp dCatS (dOp dCatS (dOp dCatS (dOp dCatS (dC (.str (PySem.Str.ofString "0x"))) (dSlS (dVar 7) (dNoPart) (dPart (dC (.int 4))))) (dC (.str (PySem.Str.ofString ".")))) (dSlS (dVar 7) (dPart (dC (.int 4))) (dNoPart))) (dC (.str (PySem.Str.ofString "p")))) (dCB dStrB (dCons (dOp dAdd (dVar 4) (dC (.int 8))) (dNil)))) (dgName 7)) (dRet (dLst (dCons (dVar 7) (dCons (dLst (dCons (dOp dShl (dVar 3) (dCB dMax2 (dCons (dC (.int 0)) (dCons (dVar 4) (dNil))))) (dCons (dOp dShl (dC (.int 1)) (dCB dMax2 (dCons (dC (.int 0)) (dCons (dOp dSub (dC (.int 0)) (dVar 4)) (dNil))))) (dNil)))) (dNil)))))
theorem ok_hex {V : List D} {w : Int} {a : Nat} {e : Int} {x : D} {z : Option D} {H : List Nat} {De : DEnds} {Gd : D → Mem → Prop} {μ : Mem} (hl : H.length = 6) (hd : ∀ c ∈ H, isD 16 c = true) (ha : a < 1000000000) (he : -18 ≤ e ∧ e ≤ 12) (hv : valB 16 H = a)
    (q : ∀ t num den, txtG t num den → Gd (.lst [.str t, .lst [.int num, .int den]]) μ) (hrt : De.rt = Gd) :
    hexRest De [some (.box 0), some (.lst V), some (.int w), some (.int a), some (.int e), some (.str (PySem.Str.ofString "0123456789abcdef")), some x, some (.str (tx H)), z] μ := by
  unfold hexRest
  have h1 := tx_cutL H (j := 4) (by omega)
  have h2 := tx_cutR H (i := 4) (by omega)
  have hz : (tx H).length ≤ sizeLine := by rw [tx_len, hl, sizeLine_eq]; decide
  have le := dec_l (n := (e + 8).natAbs) (j := 2) (by decide) (by omega)
  have ls : (sgd (e + 8)).length ≤ 1 := by unfold sgd; split <;> decide
  have s0x : PySem.Str.ofString "0x" = tx [48, 120] := by decide +kernel
  have sdot : PySem.Str.ofString "." = tx [46] := by decide +kernel
  have sp : PySem.Str.ofString "p" = tx [112] := by decide +kernel
  walk_at "d"
  rw [show cutS (tx H) none (some 4) = tx (H.take 4) from h1, s0x]
  refine e_catS (by rw [tx_len, tx_len, sizeLine_eq]; simp only [List.length_append, List.length_cons, List.length_nil, List.length_take, List.length_drop]; omega) ?_
  rw [tx_app]
  walk_at "d"
  rw [sdot]
  refine e_catS (by rw [tx_len, tx_len, sizeLine_eq]; simp only [List.length_append, List.length_cons, List.length_nil, List.length_take, List.length_drop]; omega) ?_
  rw [tx_app]
  walk_at "d"
  rw [show cutS (tx H) (some 4) none = tx (H.drop 4) from h2]
  refine e_catS (by rw [tx_len, tx_len, sizeLine_eq]; simp only [List.length_append, List.length_cons, List.length_nil, List.length_take, List.length_drop]; omega) ?_
  rw [tx_app]
  walk_at "d"
  rw [sp]
  refine e_catS (by rw [tx_len, tx_len, sizeLine_eq]; simp only [List.length_append, List.length_cons, List.length_nil, List.length_take, List.length_drop]; omega) ?_
  rw [tx_app]
  walk_at "d"
  refine e_strB (lim_of (bd_up (bd_small 20 (by omega)) (by decide))) ?_
  rw [dec_str]
  refine e_catS (by rw [tx_len, tx_len, sizeLine_eq]; simp only [List.length_append, List.length_cons, List.length_nil, List.length_take, List.length_drop]; omega) ?_
  rw [tx_app]
  walk_at "d"
  rw [max0]
  refine e_shlN (n := 40) e.toNat (by omega) (bd_small 40 (by omega)) (by omega) ?_
  walk_at "d"
  rw [max0]
  refine e_shlN (n := 2) (0 - e).toNat (by omega) (bd_small 2 (by decide)) (by omega) ?_
  walk_at "d"
  rw [Int.one_mul, hrt]
  refine q _ _ _ ⟨Int.mul_nonneg (by omega) (Int.le_of_lt (two_pos _)), two_pos _, bd_up (bd_mul (i := 40) (bd_small 40 (by omega)) (bd_pow (n := 40) (by omega))) (by decide), bd_up (bd_pow (n := 40) (by omega)) (by decide), _, rfl, ?_, .inl ⟨a, e, fun fr hf => ?_, by omega, bd_up (bd_small 40 (by omega)) (by decide), by omega, by omega, rfl, by rw [Int.zero_sub]⟩⟩
  · simp only [List.length_append, List.length_cons, List.length_nil, List.length_take, List.length_drop]; omega
  · have h := num_hex hl hd (k := e) (by omega) hf
    rw [hv] at h
    simp only [List.append_assoc, List.cons_append, List.nil_append]
    exact h
theorem ok_L_text : ∀ ds μ Gd, F_L_text ds μ Gd → t_L_text { nx := fun _ μ' => Gd .non μ', rt := Gd } (startD 9 ds) μ := by
  rintro ds μ Gd ⟨P, lo, n, N, rfl, s, hk, hN0, hN, q⟩
  obtain ⟨V, hV⟩ : ∃ V, V = vs8 P lo ((countF P lo (lo + n)).toNat + 1) := ⟨_, rfl⟩
  rw [← hV]
  show t_L_text _ [some (.box 0), some (.lst V), none, none, none, none, none, none, none] _
  unfold t_L_text
  walk_at "d"
  refine ⟨4, N, rfl, by omega, by omega, hk, by omega, fun w μ1 w0 w1 hk1 => ?_⟩
  walk_at "d"
  refine ⟨3, N + 1, rfl, by omega, by omega, hk1, by omega, fun a2 μ2 a20 a21 hk2 => ?_⟩
  walk_at "d"
  obtain ⟨z, e1w, hw⟩ := atI_mem (l := [D.int 10, .int 1000, .int (10 ^ Int.toNat 6)]) a20 a21
  obtain ⟨m, rfl, m0, m1⟩ : ∃ m : Int, z = .int m ∧ 0 < m ∧ m ≤ 1000000 := by
    simp only [List.mem_cons, List.not_mem_nil, or_false] at hw
    rcases hw with rfl | rfl | rfl
    · exact ⟨_, rfl, by omega, by omega⟩
    · exact ⟨_, rfl, by omega, by omega⟩
    · exact ⟨_, rfl, by decide, by decide⟩
  refine e_ix rfl e1w ?_
  clear hw e1w
  walk_at "d"
  refine ⟨m, N + 1 + 1, rfl, by omega, by omega, hk2, by omega, fun a μ3 a0 a1 hk3 => ?_⟩
  obtain ⟨a, rfl⟩ := Int.eq_ofNat_of_zero_le a0
  walk_at "d"
  refine e_if (fun h => ?_) (fun h => ?_)
  · walk_at "d"
    rw [hV]
    exact ⟨P, lo, n, N + 1 + 1 + 1, rfl, s, hk3, by omega, by omega, fun t num den μ4 ht hk4 => q t num den μ4 ht (hk4.mono (by omega))⟩
  walk_at "d"
  refine e_if (fun h2 => ?_) (fun h2 => ?_)
  · walk_at "d"
    refine ⟨31, N + 1 + 1 + 1, rfl, by omega, by omega, hk3, by omega, fun k μ4 k0 k1 hk4 => ?_⟩
    walk_at "d"
    obtain ⟨e, he⟩ : ∃ e : Int, k - 18 = e := ⟨_, rfl⟩
    rw [he]
    have e01 : -18 ≤ e ∧ e ≤ 12 := by omega
    obtain ⟨R, hR⟩ : ∃ R, R = hexRest := ⟨_, rfl⟩
    have hR2 := hR
    unfold hexRest at hR2
    rw [← hR2]
    clear hR2
    refine loop_inv (fun i σ μ' => μ' = μ4 ∧ i ≤ 6 ∧ ∃ (z : Option D) (H : List Nat), σ = [some (.box 0), some (.lst V), some (.int w), some (.int a), some (.int e), some (.str (PySem.Str.ofString "0123456789abcdef")), some (.int ((a / 16 ^ i : Nat) : Int)), some (.str (tx H)), z] ∧ H.length = i ∧ (∀ c ∈ H, isD 16 c = true) ∧ valB 16 H = a % 16 ^ i) _ 0 _ _ ⟨rfl, Nat.zero_le _, none, [], by rw [Nat.pow_zero, Nat.div_one]; rfl, rfl, (fun c h => nomatch h), by rw [Nat.pow_zero, Nat.mod_one]; rfl⟩ ?_ ?_
    · rintro i x σ μ5 K ex ⟨rfl, hi0, z, H, rfl, hl, hd, hv⟩ hK
      obtain ⟨hi, rfl⟩ := rng_at12 ex
      have hi : i < 6 := hi
      rw [Nat.zero_add] at hK hl hv ⊢
      walk_at "d"
      obtain ⟨f1, f2, f3⟩ := hexc_f ((a / 16 ^ i) % 16) (Nat.mod_lt _ (by decide))
      refine ⟨_, _, hexc ((a / 16 ^ i) % 16), rfl, rfl, by omega, by omega, by rw [show (PySem.Str.ofString "0123456789abcdef").length = 16 by decide +kernel]; omega, by rw [show ((((a / 16 ^ i : Nat) : Int) % 16).toNat) = (a / 16 ^ i) % 16 by omega]; exact f3, ?_⟩
      walk_at "d"
      refine e_catS (by show (tx [_]).length + _ ≤ _; rw [tx_len, tx_len, sizeLine_eq]; simp only [List.length_cons, List.length_nil]; omega) ?_
      rw [show (⟨#[hexc ((a / 16 ^ i) % 16)]⟩ : Str) = tx [hexc ((a / 16 ^ i) % 16)] from rfl, tx_app]
      walk_at "d"
      refine e_fdiv (div_ok (k := 20) (by decide) (bd_small 20 (by decide))) ?_
      rw [show ((a / 16 ^ i : Nat) : Int) / 16 = ((a / 16 ^ (i + 1) : Nat) : Int) by rw [Nat.pow_succ, ← Nat.div_div_eq_div_mul]; rfl]
      walk_at "d"
      refine hK _ _ ⟨rfl, by omega, some (.int (0 + (i : Int))), hexc ((a / 16 ^ i) % 16) :: H, ?_, by rw [List.length_cons, hl], fun c h => ?_, ?_⟩
      · rfl
      · rcases List.mem_cons.mp h with rfl | h
        · exact f1
        · exact hd c h
      · rw [valB_cons, f2, hl, hv, Nat.pow_succ]
        rw [Nat.mod_mul, Nat.mul_comm, Nat.add_comm]
    · rintro σ μ5 ⟨rfl, _, z, H, rfl, hl, hd, hv⟩
      rw [rngD_len] at hl hv ⊢
      have hl : H.length = 6 := hl
      have hv : valB 16 H = a := by rw [hv]; exact Nat.mod_eq_of_lt (Nat.lt_of_lt_of_le (show a < 1000001 by omega) (by decide))
      rw [hR]
      exact ok_hex hl hd (by omega) e01 hv (fun t num den ht => q t num den _ ht (hk4.mono (by omega))) rfl
  · walk_at "d"
    refine ⟨13, N + 1 + 1 + 1, rfl, by omega, by omega, hk3, by omega, fun k μ4 k0 k1 hk4 => ?_⟩
    walk_at "d"
    obtain ⟨e, he⟩ : ∃ e : Int, k - 7 = e := ⟨_, rfl⟩
    rw [he]
    have e01 : -7 ≤ e ∧ e ≤ 5 := by omega
    have la := dec_l (n := a) (j := 7) (by decide) (by omega)
    have le := dec_l (n := e.natAbs) (j := 2) (by decide) (by omega)
    have ls : (sgd e).length ≤ 1 := by unfold sgd; split <;> decide
    refine e_strB (lim_of (bd_up (bd_small 30 (by omega)) (by decide))) ?_
    rw [dec_str, show sgd (a : Int) = [] from if_neg (by omega), Int.natAbs_natCast, List.nil_append]
    walk_at "d"
    refine e_catS (by rw [tx_len, s_e, tx_len, sizeLine_eq]; simp only [List.length_cons, List.length_nil]; omega) ?_
    rw [s_e, tx_app]
    walk_at "d"
    refine e_strB (lim_of (bd_up (bd_small 20 (by omega)) (by decide))) ?_
    rw [dec_str]
    refine e_catS (by rw [tx_len, tx_len, sizeLine_eq, List.length_append, List.length_append]; simp only [List.length_cons, List.length_nil]; omega) ?_
    rw [tx_app]
    walk_at "d"
    rw [max0]
    refine ⟨e.toNat, rfl, by omega, ?_⟩
    have b1 := p10_bd e.toNat
    refine e_mulI (mul_ok (i := 30) (bd_small 30 (by omega)) (bd_up b1 (show _ ≤ 30 by omega)) (by decide)) ?_
    walk_at "d"
    rw [max0]
    refine ⟨(0 - e).toNat, rfl, by omega, ?_⟩
    walk_at "d"
    refine q _ _ _ _ ⟨Int.mul_nonneg (by omega) (Int.le_of_lt (Int.pow_pos (by decide))), Int.pow_pos (by decide), bd_up (bd_mul (i := 30) (bd_small 30 (by omega)) (bd_up b1 (show _ ≤ 30 by omega))) (by decide), bd_up (p10_bd _) (by omega), _, rfl, ?_, .inr ⟨a, e, fun fr hf => ?_, ⟨by omega, bd_up (bd_small 30 (by omega)) (by decide), by omega, by omega⟩, rfl, ?_⟩⟩ (hk4.mono (by omega))
    · simp only [List.length_append, List.length_cons, List.length_nil]; omega
    · have h := num_dec (n := a) (k := e) (Nat.lt_of_lt_of_le (show a < 10 ^ 7 by omega) (Nat.pow_le_pow_right (by decide) (by decide))) (by omega) hf
      rw [List.append_assoc]
      exact h
    · unfold fD
      rw [Int.zero_sub]
theorem way5 {x : D} (h : x ∈ [D.str Way.even.s, .str Way.away.s, .str Way.zero.s, .str Way.out.s, .str Way.odd.s]) : ∃ w : Way, x = .str w.s := by
  simp only [List.mem_cons, List.not_mem_nil, or_false] at h
  rcases h with rfl | rfl | rfl | rfl | rfl
  · exact ⟨.even, rfl⟩
  · exact ⟨.away, rfl⟩
  · exact ⟨.zero, rfl⟩
  · exact ⟨.out, rfl⟩
  · exact ⟨.odd, rfl⟩
theorem two_shw {a b : Int} (ha : Bd 40 a) (hb : Bd 40 b) : (D.tup [.int a, .int b]).shwB ∧ (D.lst [.tup [.int a, .int b], .tup [.int a, .int b]]).shwB := by
  have g : (D.tup [.int a, .int b]).gB := ⟨lim_of (bd_up ha (by decide)), lim_of (bd_up hb (by decide)), trivial⟩
  refine ⟨shwB_of g ?_ ?_, shwB_of ⟨g, g, trivial⟩ ?_ ?_⟩
  all_goals simp only [D.wB, wBs, D.dpx, dpxs]; decide
theorem read_bd {P : Nat} {lo : Int} {n : Nat} (s : sf P lo n) {num den : Int} {w : Way} (n0 : 0 ≤ num) (d0 : 0 < den) : Bd 40 (readF P lo (lo + n) w num den) := by
  have hlh : lo ≤ lo + n := by omega
  obtain ⟨k0, k1⟩ := lowC_in (P := P) hlh n0 d0
  have hc := s.cnt
  refine bd_small 40 ?_
  rcases read_char (P := P) hlh n0 d0 with r | r
  · rw [r.2 w]; omega
  · obtain ⟨_, _, r1, r2, r3, r4, r5⟩ := r
    cases w with
    | zero => rw [r1]; omega
    | out => rw [r2]; omega
    | odd => rw [r3]; omega
    | even => rw [r4]; split; · omega
              split <;> omega
    | away => rw [r5]; split <;> omega
/-- what a text of the deck is read as -/
theorem txt_read {t : Str} {num den : Int} (ht : txtG t num den) {fr : List Nat} (hf : fr = [] ∨ fr = [43] ∨ fr = [45]) {P : Nat} {lo hi : Int} {w : Way} (o : okf P lo hi) {Gd : D → Mem → Prop} {Ex : DExF} {μ : Mem}
    (q : Gd (.tup [.int (sgV fr), .int (readF P lo hi w num den)]) μ) : F_read_text [fm P lo hi, .str w.s, .str (tx fr ++ t)] μ Gd Ex := by
  obtain ⟨_, _, _, _, body, rfl, _, h⟩ := ht
  rw [tx_app]
  refine ⟨P, lo, hi, w, _, rfl, o, ?_⟩
  rcases h with ⟨n, e, hn, n0, bn, e0, e1, rfl, rfl⟩ | ⟨n, z, hn, ho, rfl, rfl⟩
  · exact .inr (.inl ⟨_, _, n, e, rfl, hn fr hf, n0, bn, e0, e1, q⟩)
  · exact .inr (.inr (.inl ⟨_, _, n, z, rfl, hn fr hf, ho, q⟩))
theorem inf_read {fr : List Nat} (hf : fr = [] ∨ fr = [43] ∨ fr = [45]) {P : Nat} {lo hi : Int} {w : Way} (o : okf P lo hi) {Gd : D → Mem → Prop} {Ex : DExF} {μ : Mem}
    (q : Gd (.tup [.int (sgV fr), .int (countF P lo hi)]) μ) : F_read_text [fm P lo hi, .str w.s, .str (tx fr ++ PySem.Str.ofString "inf")] μ Gd Ex := by
  have s : PySem.Str.ofString "inf" = tx [105, 110, 102] := by decide +kernel
  rw [s, tx_app]
  exact ⟨P, lo, hi, w, _, rfl, o, .inl ⟨_, _, rfl, ⟨fr, hf, .inl ⟨rfl, rfl⟩⟩, q⟩⟩
theorem ok_n : D.non.ok := ok_of (d := .non) trivial (show (0 : Nat) ≤ 50 by decide)
theorem num_225 (w : Way) {Gd : D → Mem → Prop} {Ex : DExF} {μ : Mem} (q : Gd (.tup [.int 0, .int (readF 2 (-2) 2 w (fN 225 (-2)) (fD (-2)))]) μ) : F_read_text [.tup [.int 3, .int (-2), .int 2], .str w.s, .str (PySem.Str.ofString "2.25")] μ Gd Ex := by
  refine ⟨2, -2, 2, w, _, rfl, ⟨by decide, by decide, by decide, by decide⟩, .inr (.inr (.inl ⟨_, 0, 225, -2, rfl, ⟨[], .inl rfl, .inr (.inr ⟨[50], [50, 53], true, [], 0, ⟨.inl rfl, by decide, by decide, by decide, (fun h => nomatch h), by decide, (fun c h => nomatch h)⟩, by decide, .inl ⟨rfl, rfl⟩, by decide +kernel, rfl⟩)⟩, ⟨by decide, bd_small _ ?_, by decide, by decide⟩, q⟩))⟩
  exact Nat.lt_of_lt_of_le (show (225 : Int).natAbs < 2 ^ 8 by decide) (Nat.pow_le_pow_right (by decide) (by decide))
theorem ways_225 : ([8, 9, 9] : List Int)[0]? = some (readF 2 (-2) 2 .even (fN 225 (-2)) (fD (-2))) ∧ ([8, 9, 9] : List Int)[1]? = some (readF 2 (-2) 2 .away (fN 225 (-2)) (fD (-2))) ∧ ([8, 9, 9] : List Int)[2]? = some (readF 2 (-2) 2 .odd (fN 225 (-2)) (fD (-2))) := by decide +kernel
theorem last_ok : (D.lst [D.tup [.int 0, .int 8], D.tup [.int 0, .int 9], D.tup [.int 0, .int 9]]).ok := by
  have h : ∀ i : Int, i.natAbs < 1024 → i.natAbs < 2 ^ 1919 := fun i h => Nat.lt_of_lt_of_le (show i.natAbs < 2 ^ 10 from h) (Nat.pow_le_pow_right (by decide) (by decide))
  refine ok_of ?_ ?_
  · have h0 := h 0 (by decide)
    have h8 := h 8 (by decide)
    have h9 := h 9 (by decide)
    exact ⟨⟨h0, h8, trivial⟩, ⟨h0, h9, trivial⟩, ⟨h0, h9, trivial⟩, trivial⟩
  · decide
def F_law : DSp := fun ds μ Gd => ∃ ns : List Int, ds = [scr ns] ∧ ns.length ≤ 63 ∧ μ = [] ∧ Gd (.bl true) []
-- law: slots 0=_law_script 1=_law_deck_here 2=_law_turn 3=_law_form_here 4=_law_values 5=_law_k 6=_law_text_here 7=_law_number 8=_law_front 9=_law_way 10=_law_due 11=_law_value 12=_law_place 13=_law_again; level 8; calls _law_code, _law_deck, _law_draw, _law_fails, _law_form, _law_numbers, _law_text, read_text
def t_law : DTS :=
  dDeck 1 0 (dSeq (dFor (dRng1 (dCons (dC (.int 10)) (dNil))) (dgName 2) (dSeq (dAsg (dCall F_L_form (dCons (dVar 1) (dNil))) (dgName 3)) (dSeq (dAsg (dCall F_L_numbers (dCons (dVar 3) (dNil))) (dgName 4)) (dSeq (dFor (dRng1 (dCons (dC (.int 6)) (dNil))) (dgName 5) (dSeq (dAsg (dCall F_L_text (dCons (dVar 1) (dCons (dVar 4) (dNil)))) (dgSeq 2 (dgCons (dgName 6) (dgCons (dgName 7) (dgNil))))) (dSeq (dAsg (dOp dIx (dLst (dCons (dC (.str (PySem.Str.ofString ""))) (dCons (dC (.str (PySem.Str.ofString "+"))) (dCons (dC (.str (PySem.Str.ofString "-"))) (dNil))))) (dCall F_L_draw (dCons (dVar 1) (dCons (dC (.int 3)) (dNil))))) (dgName 8)) (dFor (dItL (dLst (dCons (dC (.str (PySem.Str.ofString "even"))) (dCons (dC (.str (PySem.Str.ofString "away"))) (dCons (dC (.str (PySem.Str.ofString "zero"))) (dCons (dC (.str (PySem.Str.ofString "out"))) (dCons (dC (.str (PySem.Str.ofString "odd"))) (dNil)))))))) (dgName 9) (dSeq (dAsg (dTup (dCons (dCB dInt1 (dCons (dOp dEq (dVar 8) (dC (.str (PySem.Str.ofString "-")))) (dNil))) (dCons (dCall F_L_code (dCons (dVar 4) (dCons (dVar 9) (dCons (dOp dIx (dVar 7) (dC (.int 0))) (dCons (dOp dIx (dVar 7) (dC (.int 1))) (dNil)))))) (dNil)))) (dgName 10)) (dSeq (dIfS (dTest (dOp dNe (dCB dReprB (dCons (dLc (dRng1 (dCons (dC (.int 2)) (dNil))) (dgName 13) (dYes) (dCall (nx F_read_text) (dCons (dVar 3) (dCons (dVar 9) (dCons (dOp dCatS (dVar 8) (dVar 6)) (dNil))))) [13]) (dNil))) (dCB dReprB (dCons (dLst (dCons (dVar 10) (dCons (dVar 10) (dNil)))) (dNil))))) (dRet (dC (.bl false))) (dNext)) (dIfS (dTest (dOp dNe (dCB dReprB (dCons (dCall (nx F_read_text) (dCons (dVar 3) (dCons (dVar 9) (dCons (dOp dCatS (dVar 8) (dC (.str (PySem.Str.ofString "inf")))) (dNil))))) (dNil))) (dCB dReprB (dCons (dTup (dCons (dOp dIx (dVar 10) (dC (.int 0))) (dCons (dOp dSub (dCB dLen (dCons (dVar 4) (dNil))) (dC (.int 1))) (dNil)))) (dNil))))) (dRet (dC (.bl false))) (dNext)))))))) (dFor (dItL (dLst (dCons (dLst (dCons (dC (.str (PySem.Str.ofString "1e"))) (dCons (dC (.int 2)) (dNil)))) (dCons (dLst (dCons (dC (.str (PySem.Str.ofString "x"))) (dCons (dC (.int 0)) (dNil)))) (dCons (dLst (dCons (dC .non) (dCons (dC .non) (dNil)))) (dCons (dLst (dCons (dC (.int 5)) (dCons (dC .non) (dNil)))) (dCons (dLst (dCons (dC (.str (PySem.Str.ofString "1e1201"))) (dCons (dC (.int 5)) (dNil)))) (dCons (dLst (dCons (dC (.str (PySem.Str.ofString ""))) (dCons (dC (.int 0)) (dNil)))) (dNil))))))))) (dgSeq 2 (dgCons (dgName 11) (dgCons (dgName 12) (dgNil)))) (dIfS (dTest (dOp dNe (dCall F_L_fails (dCons (dVar 3) (dCons (dC (.str (PySem.Str.ofString "even"))) (dCons (dVar 11) (dNil))))) (dVar 12))) (dRet (dC (.bl false))) (dNext))))))) (dRet (dOp dEq (dLc (dItT (dTup (dCons (dC (.str (PySem.Str.ofString "even"))) (dCons (dC (.str (PySem.Str.ofString "away"))) (dCons (dC (.str (PySem.Str.ofString "odd"))) (dNil)))))) (dgName 9) (dYes) (dCall (nx F_read_text) (dCons (dTup (dCons (dC (.int 3)) (dCons (dUn dNeg (dC (.int 2))) (dCons (dC (.int 2)) (dNil))))) (dCons (dVar 9) (dCons (dC (.str (PySem.Str.ofString "2.25"))) (dNil))))) [9]) (dLst (dCons (dTup (dCons (dC (.int 0)) (dCons (dC (.int 8)) (dNil)))) (dCons (dTup (dCons (dC (.int 0)) (dCons (dC (.int 9)) (dNil)))) (dCons (dTup (dCons (dC (.int 0)) (dCons (dC (.int 9)) (dNil)))) (dNil))))))))

theorem cnt_law : ∀ ds μ Gd, F_law ds μ Gd → ds.length = 1 := by
  rintro ds μ Gd ⟨i, rfl, _⟩; rfl
theorem ok_law : ∀ ds μ Gd, F_law ds μ Gd → t_law { nx := fun _ μ' => Gd .non μ', rt := Gd } (startD 14 ds) μ := by
  rintro ds μ Gd ⟨ns, rfl, hl, rfl, q⟩
  show t_law _ [some (scr ns), none, none, none, none, none, none, none, none, none, none, none, none, none] _
  unfold t_law
  refine ⟨ns, rfl, hl, rfl, by decide, ?_⟩
  show _
  walk_at "d"
  refine loop_inv (fun k σ μ => ∃ (z2 z3 z4 z5 z6 z7 z8 z9 z10 z11 z12 : Option D), σ = [some (scr ns), some (.box 0), z2, z3, z4, z5, z6, z7, z8, z9, z10, z11, z12, none] ∧ DK (4000 * k) μ) _ 0 _ _ ⟨none, none, none, none, none, none, none, none, none, none, none, rfl, (dk_new ns hl).mono (by omega)⟩ ?_ ?_
  · rintro k x σ μ1 K e ⟨z2, z3, z4, z5, z6, z7, z8, z9, z10, z11, z12, rfl, hk⟩ hK
    obtain ⟨hi, rfl⟩ := rng_at12 e
    have hi : k < 10 := hi
    rw [Nat.zero_add] at hk hK
    walk_at "d"
    refine ⟨4000 * k, rfl, hk, by omega, fun P lo n μ2 s hk2 => ?_⟩
    walk_at "d"
    refine ⟨P, lo, n, rfl, s, ?_⟩
    walk_at "d"
    refine loop_inv (fun j σ μ => ∃ (z5 z6 z7 z8 z9 z10 : Option D), σ = [some (scr ns), some (.box 0), some (.int (0 + (k : Int))), some (fm P lo (lo + n)), some (.lst (vs8 P lo ((countF P lo (lo + n)).toNat + 1))), z5, z6, z7, z8, z9, z10, z11, z12, none] ∧ DK (4000 * k + 5 + 100 * j) μ) _ 0 _ _ ⟨_, _, _, _, _, _, rfl, hk2.mono (by omega)⟩ ?_ ?_
    · rintro j x σ μ3 K2 e ⟨z5, z6, z7, z8, z9, z10, rfl, hk3⟩ hK2
      obtain ⟨hj, rfl⟩ := rng_at12 e
      have hj : j < 6 := hj
      rw [Nat.zero_add] at hk3 hK2
      walk_at "d"
      refine ⟨P, lo, n, 4000 * k + 5 + 100 * j, rfl, s, hk3, by omega, by omega, fun t num den μ4 ht hk4 => ?_⟩
      walk_at "d"
      refine ⟨3, 4000 * k + 5 + 100 * j + 20, rfl, by omega, by omega, hk4, by omega, fun a μ5 a0 a1 hk5 => ?_⟩
      walk_at "d"
      obtain ⟨wd, e1w, hw⟩ := atI_mem (l := [D.str (PySem.Str.ofString ""), .str (PySem.Str.ofString "+"), .str (PySem.Str.ofString "-")]) a0 a1
      obtain ⟨fr, rfl, hf⟩ : ∃ fr : List Nat, wd = .str (tx fr) ∧ (fr = [] ∨ fr = [43] ∨ fr = [45]) := by
        simp only [List.mem_cons, List.not_mem_nil, or_false] at hw
        rcases hw with rfl | rfl | rfl
        · exact ⟨[], rfl, .inl rfl⟩
        · exact ⟨[43], by rw [show PySem.Str.ofString "+" = tx [43] by decide +kernel], .inr (.inl rfl)⟩
        · exact ⟨[45], by rw [show PySem.Str.ofString "-" = tx [45] by decide +kernel], .inr (.inr rfl)⟩
      refine e_ix rfl e1w ?_
      clear hw e1w
      walk_at "d"
      refine loop_inv (fun i σ μ => μ = μ5 ∧ ∃ (z9 z10 : Option D), σ = [some (scr ns), some (.box 0), some (.int (0 + (k : Int))), some (fm P lo (lo + n)), some (.lst (vs8 P lo ((countF P lo (lo + n)).toNat + 1))), some (.int (0 + (j : Int))), some (.str t), some (.lst [.int num, .int den]), some (.str (tx fr)), z9, z10, z11, z12, none]) _ 0 _ _ ⟨rfl, _, _, rfl⟩ ?_ ?_
      · rintro i x σ μ6 K3 e ⟨rfl, z9, z10, rfl⟩ hK3
        obtain ⟨w, rfl⟩ := way5 (List.mem_of_getElem? e)
        clear e
        have hc := s.cnt
        have hb := read_bd s (w := w) ht.n0 ht.d0
        have hsg : Bd 40 (sgV fr) := by unfold sgV; split <;> decide
        walk_at "d"
        refine ⟨P, lo, n, w, num, den, rfl, s, ht.n0, ht.d0, ht.bn, ht.bd, ?_⟩
        walk_at "d"
        have hfl : fr.length ≤ 1 := by rcases hf with rfl | rfl | rfl <;> decide
        have htl : t.length ≤ 2000 := by
          obtain ⟨_, _, _, _, body, rfl, hb, _⟩ := ht
          rw [tx_len]; exact hb
        have hm : (if decide (tx fr = PySem.Str.ofString "-") = true then (1 : Int) else 0) = sgV fr := by
          rw [show PySem.Str.ofString "-" = tx [45] by decide +kernel]
          unfold sgV
          by_cases z : fr = [45]
          · rw [if_pos z, if_pos (decide_eq_true (by rw [z]))]
          · rw [if_neg z, if_neg (by rw [decide_eq_false fun y => z (tx_eq.mp y)]; decide)]
        rw [hm]
        refine lc_inv (fun i acc μ' => μ' = μ6 ∧ i ≤ 2 ∧ acc = List.replicate i (D.tup [.int (sgV fr), .int (readF P lo (lo + n) w num den)])) _ 0 [] _ ⟨rfl, Nat.zero_le _, rfl⟩ ?_ ?_
        · rintro i x acc μ' K e ⟨rfl, hi, rfl⟩ hK
          rw [Nat.zero_add] at hi hK ⊢
          obtain ⟨hi2, rfl⟩ := rng_at12 e
          walk_at "d"
          refine e_catS (by rw [tx_len]; exact Nat.le_trans (Nat.add_le_add hfl htl) (by rw [sizeLine_eq]; decide)) ?_
          walk_at "d"
          refine txt_read ht hf s.okf ?_
          refine ⟨by rw [List.length_replicate, sizeLine_eq]; omega, ?_⟩
          exact hK _ _ ⟨rfl, by omega, by rw [List.replicate_succ']⟩
        rintro acc μ' ⟨rfl, _, rfl⟩
        rw [rngD_len, show List.replicate (0 + Int.toNat 2) (D.tup [.int (sgV fr), .int (readF P lo (lo + n) w num den)]) = [D.tup [.int (sgV fr), .int (readF P lo (lo + n) w num den)], D.tup [.int (sgV fr), .int (readF P lo (lo + n) w num den)]] from rfl]
        walk_at "d"
        refine e_reprB (two_shw hsg hb).2 ?_
        walk_at "d"
        refine e_reprB (two_shw hsg hb).2 ?_
        refine e_neSS ?_
        walk_at "d"
        refine e_catS (by rw [tx_len]; exact Nat.le_trans (Nat.add_le_add hfl (show (PySem.Str.ofString "inf").length ≤ 3 by decide +kernel)) (by rw [sizeLine_eq]; decide)) ?_
        walk_at "d"
        refine inf_read hf s.okf ?_
        walk_at "d"
        refine e_reprB (two_shw hsg (bd_small 40 (by omega))).1 ?_
        walk_at "d"
        rw [vs8_len, show (((countF P lo (lo + n)).toNat + 1 : Nat) : Int) - 1 = countF P lo (lo + n) by omega]
        walk_at "d"
        refine e_reprB (two_shw hsg (bd_small 40 (by omega))).1 ?_
        refine e_neSS ?_
        walk_at "d"
        exact hK3 _ _ ⟨rfl, _, _, rfl⟩
      · rintro σ μ6 ⟨rfl, z9, z10, rfl⟩
        exact hK2 _ _ ⟨_, _, _, _, _, _, rfl, hk5.mono (by omega)⟩
    · rintro σ μ3 ⟨z5, z6, z7, z8, z9, z10, rfl, hk3⟩
      have hk3 : DK (4000 * k + 5 + 100 * ((0 + 6 : Nat) : Int)) μ3 := hk3
      walk_at "d"
      refine loop_inv (fun i σ μ => μ = μ3 ∧ ∃ (z11 z12 : Option D), σ = [some (scr ns), some (.box 0), some (.int (0 + (k : Int))), some (fm P lo (lo + n)), some (.lst (vs8 P lo ((countF P lo (lo + n)).toNat + 1))), z5, z6, z7, z8, z9, z10, z11, z12, none]) _ 0 _ _ ⟨rfl, _, _, rfl⟩ ?_ ?_
      · rintro i x σ μ6 K3 e ⟨rfl, z11, z12, rfl⟩ hK3
        have hx := List.mem_of_getElem? e
        clear e
        simp only [List.mem_cons, List.not_mem_nil, or_false] at hx
        have hK3 := fun z11 z12 => hK3 _ _ ⟨rfl, z11, z12, rfl⟩
        rcases hx with rfl | rfl | rfl | rfl | rfl | rfl
        · walk_at "d"
          refine ⟨P, lo, lo + n, .even, _, _, rfl, s.okf, bad1, ?_⟩
          walk_at "d"
          exact hK3 _ _
        · walk_at "d"
          refine ⟨P, lo, lo + n, .even, _, _, rfl, s.okf, bad2, ?_⟩
          walk_at "d"
          exact hK3 _ _
        · walk_at "d"
          refine ⟨P, lo, lo + n, .even, _, _, rfl, s.okf, .inl ⟨rfl, rfl⟩, ?_⟩
          walk_at "d"
          refine e_ne ok_n ok_n ?_
          walk_at "d"
          exact hK3 _ _
        · walk_at "d"
          refine ⟨P, lo, lo + n, .even, _, _, rfl, s.okf, .inr (.inl ⟨rfl, rfl⟩), ?_⟩
          walk_at "d"
          refine e_ne ok_n ok_n ?_
          walk_at "d"
          exact hK3 _ _
        · walk_at "d"
          refine ⟨P, lo, lo + n, .even, _, _, rfl, s.okf, bad3, ?_⟩
          walk_at "d"
          exact hK3 _ _
        · walk_at "d"
          refine ⟨P, lo, lo + n, .even, _, _, rfl, s.okf, bad4, ?_⟩
          walk_at "d"
          exact hK3 _ _
      · rintro σ μ6 ⟨rfl, z11, z12, rfl⟩
        exact hK _ _ ⟨_, _, _, _, _, _, _, _, _, _, _, rfl, hk3.mono (by omega)⟩
  · rintro σ μ1 ⟨z2, z3, z4, z5, z6, z7, z8, z9, z10, z11, z12, rfl, hk⟩
    walk_at "d"
    refine lc_inv (fun i acc μ' => μ' = μ1 ∧ acc = (([8, 9, 9] : List Int).take i).map fun c => D.tup [.int 0, .int c]) _ 0 [] _ ⟨rfl, rfl⟩ ?_ ?_
    · rintro i x acc μ' K e ⟨rfl, rfl⟩ hK
      rw [Nat.zero_add] at hK ⊢
      have hx : ∃ w : Way, x = .str w.s ∧ ([8, 9, 9] : List Int)[i]? = some (readF 2 (-2) 2 w (fN 225 (-2)) (fD (-2))) := by
        match i, e with
        | 0, e => exact ⟨.even, (Option.some.inj e).symm, ways_225.1⟩
        | 1, e => exact ⟨.away, (Option.some.inj e).symm, ways_225.2.1⟩
        | 2, e => exact ⟨.odd, (Option.some.inj e).symm, ways_225.2.2⟩
        | i + 3, e => exact nomatch e
      obtain ⟨w, rfl, hc⟩ := hx
      clear e
      walk_at "d"
      refine num_225 w ?_
      refine ⟨by rw [List.length_map, sizeLine_eq]; exact Nat.lt_of_le_of_lt (List.length_take_le' _ _) (by decide), hK _ _ ⟨rfl, ?_⟩⟩
      rw [List.take_add_one, hc, List.map_append]
      rfl
    · rintro acc μ' ⟨rfl, rfl⟩
      walk_at "d"
      rw [show (([8, 9, 9] : List Int).take (0 + [D.str (PySem.Str.ofString "even"), D.str (PySem.Str.ofString "away"), D.str (PySem.Str.ofString "odd")].length)).map (fun c => D.tup [.int 0, .int c]) = [D.tup [.int 0, .int 8], D.tup [.int 0, .int 9], D.tup [.int 0, .int 9]] from rfl]
      refine e_eq last_ok last_ok ?_
      rw [show (D.lst [D.tup [.int 0, .int 8], D.tup [.int 0, .int 9], D.tup [.int 0, .int 9]]).eqv (D.lst [D.tup [.int 0, .int 8], D.tup [.int 0, .int 9], D.tup [.int 0, .int 9]]) = true by decide +kernel]
      exact ⟨true, rfl, q⟩
theorem law_true : ∀ (ns : List Int), ns.length ≤ 63 → ∀ Q : D → Mem → Prop, (∀ d μ, d = .bl true → Q d μ) → F_law [scr ns] [] Q := fun ns hl Q h => ⟨ns, rfl, hl, rfl, h _ _ rfl⟩

def topS (i : Nat) : Stmt := PySem.Challenge.pw_numbertexts_k14_texts_read.main.body.getD i (.Pass ⟨0, 0, 0, 0⟩)
abbrev s_count_of : Stmt := topS 6
abbrev N_count_of : List Str := ["form", "p", "low", "high"]
theorem sc_count_of : FnScope N_count_of ["form"] (defScope s_count_of) := ⟨rfl, rfl, rfl, by decide +kernel, rfl, by decide +kernel, by decide +kernel⟩
abbrev s_raised : Stmt := topS 8
abbrev N_raised : List Str := ["base", "exponent", "result", "place"]
theorem sc_raised : FnScope N_raised ["base", "exponent"] (defScope s_raised) := ⟨rfl, rfl, rfl, by decide +kernel, rfl, by decide +kernel, by decide +kernel⟩
abbrev s_shifted : Stmt := topS 9
abbrev N_shifted : List Str := ["n", "shift"]
theorem sc_shifted : FnScope N_shifted ["n", "shift"] (defScope s_shifted) := ⟨rfl, rfl, rfl, by decide +kernel, rfl, by decide +kernel, by decide +kernel⟩
abbrev s_log_of : Stmt := topS 10
abbrev N_log_of : List Str := ["num", "den", "k", "fits"]
theorem sc_log_of : FnScope N_log_of ["num", "den"] (defScope s_log_of) := ⟨rfl, rfl, rfl, by decide +kernel, rfl, by decide +kernel, by decide +kernel⟩
abbrev s_rounded_by : Stmt := topS 16
abbrev N_rounded_by : List Str := ["way", "n", "d", "whole", "rest"]
theorem sc_rounded_by : FnScope N_rounded_by ["way", "n", "d"] (defScope s_rounded_by) := ⟨rfl, rfl, rfl, by decide +kernel, rfl, by decide +kernel, by decide +kernel⟩
abbrev s_sign_at : Stmt := topS 25
abbrev N_sign_at : List Str := ["text", "at"]
theorem sc_sign_at : FnScope N_sign_at ["text", "at"] (defScope s_sign_at) := ⟨rfl, rfl, rfl, by decide +kernel, rfl, by decide +kernel, by decide +kernel⟩
abbrev s_mantissa_at : Stmt := topS 26
abbrev N_mantissa_at : List Str := ["text", "at", "digits", "most", "number", "many", "point"]
theorem sc_mantissa_at : FnScope N_mantissa_at ["text", "at", "digits", "most"] (defScope s_mantissa_at) := ⟨rfl, rfl, rfl, by decide +kernel, rfl, by decide +kernel, by decide +kernel⟩
abbrev s_check_infinite : Stmt := topS 28
abbrev N_check_infinite : List Str := ["text", "at", "letter"]
theorem sc_check_infinite : FnScope N_check_infinite ["text", "at"] (defScope s_check_infinite) := ⟨rfl, rfl, rfl, by decide +kernel, rfl, by decide +kernel, by decide +kernel⟩
abbrev s_L_deck : Stmt := topS 34
abbrev N_L_deck : List Str := ["_law_script", "_law_cell"]
theorem sc_L_deck : FnScope N_L_deck ["_law_script"] (defScope s_L_deck) := ⟨rfl, rfl, rfl, by decide +kernel, rfl, by decide +kernel, by decide +kernel⟩
abbrev s_L_draw : Stmt := topS 35
abbrev N_L_draw : List Str := ["_law_deck_here", "_law_many", "_law_place", "_law_cell", "_law_mixed"]
theorem sc_L_draw : FnScope N_L_draw ["_law_deck_here", "_law_many"] (defScope s_L_draw) := ⟨rfl, rfl, rfl, by decide +kernel, rfl, by decide +kernel, by decide +kernel⟩
abbrev s_L_power : Stmt := topS 37
abbrev N_L_power : List Str := ["_law_base", "_law_number", "_law_found", "_law_k"]
theorem sc_L_power : FnScope N_L_power ["_law_base", "_law_number"] (defScope s_L_power) := ⟨rfl, rfl, rfl, by decide +kernel, rfl, by decide +kernel, by decide +kernel⟩
abbrev s_L_numbers : Stmt := topS 38
abbrev N_L_numbers : List Str := ["_law_form_here", "_law_p", "_law_low", "_law_high", "_law_found", "_law_e", "_law_m"]
theorem sc_L_numbers : FnScope N_L_numbers ["_law_form_here"] (defScope s_L_numbers) := ⟨rfl, rfl, rfl, by decide +kernel, rfl, by decide +kernel, by decide +kernel⟩
abbrev s_L_between : Stmt := topS 39
abbrev N_L_between : List Str := ["_law_way", "_law_code_here", "_law_side", "_law_odd"]
theorem sc_L_between : FnScope N_L_between ["_law_way", "_law_code_here", "_law_side"] (defScope s_L_between) := ⟨rfl, rfl, rfl, by decide +kernel, rfl, by decide +kernel, by decide +kernel⟩
abbrev s_fraction_of : Stmt := topS 12
abbrev N_fraction_of : List Str := ["decimal", "d", "q"]
theorem sc_fraction_of : FnScope N_fraction_of ["decimal"] (defScope s_fraction_of) := ⟨rfl, rfl, rfl, by decide +kernel, rfl, by decide +kernel, by decide +kernel⟩
abbrev s_exponent_at : Stmt := topS 14
abbrev N_exponent_at : List Str := ["form", "num", "den", "p", "low", "high"]
theorem sc_exponent_at : FnScope N_exponent_at ["form", "num", "den"] (defScope s_exponent_at) := ⟨rfl, rfl, rfl, by decide +kernel, rfl, by decide +kernel, by decide +kernel⟩
abbrev s_greatest_read : Stmt := topS 17
abbrev N_greatest_read : List Str := ["form", "way", "beyond"]
theorem sc_greatest_read : FnScope N_greatest_read ["form", "way"] (defScope s_greatest_read) := ⟨rfl, rfl, rfl, by decide +kernel, rfl, by decide +kernel, by decide +kernel⟩
abbrev s_exponent_at_end : Stmt := topS 27
abbrev N_exponent_at_end : List Str := ["text", "at", "most", "sign", "number", "place"]
theorem sc_exponent_at_end : FnScope N_exponent_at_end ["text", "at", "most"] (defScope s_exponent_at_end) := ⟨rfl, rfl, rfl, by decide +kernel, rfl, by decide +kernel, by decide +kernel⟩
abbrev s_L_form : Stmt := topS 36
abbrev N_L_form : List Str := ["_law_deck_here", "_law_low"]
theorem sc_L_form : FnScope N_L_form ["_law_deck_here"] (defScope s_L_form) := ⟨rfl, rfl, rfl, by decide +kernel, rfl, by decide +kernel, by decide +kernel⟩
abbrev s_L_code : Stmt := topS 40
abbrev N_L_code : List Str := ["_law_values", "_law_way", "_law_num", "_law_den", "_law_top", "_law_x", "_law_code_here", "_law_value"]
theorem sc_L_code : FnScope N_L_code ["_law_values", "_law_way", "_law_num", "_law_den"] (defScope s_L_code) := ⟨rfl, rfl, rfl, by decide +kernel, rfl, by decide +kernel, by decide +kernel⟩
abbrev s_L_near_middle : Stmt := topS 41
abbrev N_L_near_middle : List Str := ["_law_deck_here", "_law_values", "_law_at", "_law_many", "_law_scale", "_law_number"]
theorem sc_L_near_middle : FnScope N_L_near_middle ["_law_deck_here", "_law_values"] (defScope s_L_near_middle) := ⟨rfl, rfl, rfl, by decide +kernel, rfl, by decide +kernel, by decide +kernel⟩
abbrev s_rough_position : Stmt := topS 15
abbrev N_rough_position : List Str := ["form", "num", "den", "p", "low", "_", "e"]
theorem sc_rough_position : FnScope N_rough_position ["form", "num", "den"] (defScope s_rough_position) := ⟨rfl, rfl, rfl, by decide +kernel, rfl, by decide +kernel, by decide +kernel⟩
abbrev s_hex_parts : Stmt := topS 29
abbrev N_hex_parts : List Str := ["text", "at", "number", "behind"]
theorem sc_hex_parts : FnScope N_hex_parts ["text", "at"] (defScope s_hex_parts) := ⟨rfl, rfl, rfl, by decide +kernel, rfl, by decide +kernel, by decide +kernel⟩
abbrev s_decimal_parts : Stmt := topS 30
abbrev N_decimal_parts : List Str := ["text", "at", "number", "behind"]
theorem sc_decimal_parts : FnScope N_decimal_parts ["text", "at"] (defScope s_decimal_parts) := ⟨rfl, rfl, rfl, by decide +kernel, rfl, by decide +kernel, by decide +kernel⟩
abbrev s_L_text : Stmt := topS 42
abbrev N_L_text : List Str := ["_law_deck_here", "_law_values", "_law_way", "_law_number", "_law_k", "_law_signs", "_law_left", "_law_shown", "_law_turn"]
theorem sc_L_text : FnScope N_L_text ["_law_deck_here", "_law_values"] (defScope s_L_text) := ⟨rfl, rfl, rfl, by decide +kernel, rfl, by decide +kernel, by decide +kernel⟩
abbrev s_read_fraction : Stmt := topS 18
abbrev N_read_fraction : List Str := ["form", "way", "num", "den", "n", "d"]
theorem sc_read_fraction : FnScope N_read_fraction ["form", "way", "num", "den"] (defScope s_read_fraction) := ⟨rfl, rfl, rfl, by decide +kernel, rfl, by decide +kernel, by decide +kernel⟩
abbrev s_parse_text : Stmt := topS 31
abbrev N_parse_text : List Str := ["value", "sign", "at", "n", "e", "q"]
theorem sc_parse_text : FnScope N_parse_text ["value"] (defScope s_parse_text) := ⟨rfl, rfl, rfl, by decide +kernel, rfl, by decide +kernel, by decide +kernel⟩
abbrev s_read : Stmt := topS 19
abbrev N_read : List Str := ["form", "way", "decimal", "num", "den"]
theorem sc_read : FnScope N_read ["form", "way", "decimal"] (defScope s_read) := ⟨rfl, rfl, rfl, by decide +kernel, rfl, by decide +kernel, by decide +kernel⟩
abbrev s_read_text : Stmt := topS 32
abbrev N_read_text : List Str := ["form", "way", "value", "sign", "parts", "base", "n", "exponent", "num", "den"]
theorem sc_read_text : FnScope N_read_text ["form", "way", "value"] (defScope s_read_text) := ⟨rfl, rfl, rfl, by decide +kernel, rfl, by decide +kernel, by decide +kernel⟩
abbrev s_L_fails : Stmt := topS 43
abbrev N_L_fails : List Str := ["_law_form_here", "_law_way", "_law_value", "error"]
theorem sc_L_fails : FnScope N_L_fails ["_law_form_here", "_law_way", "_law_value"] (defScope s_L_fails) := ⟨rfl, rfl, rfl, by decide +kernel, rfl, by decide +kernel, by decide +kernel⟩
abbrev s_law : Stmt := topS 44
abbrev N_law : List Str := ["_law_script", "_law_deck_here", "_law_turn", "_law_form_here", "_law_values", "_law_k", "_law_text_here", "_law_number", "_law_front", "_law_way", "_law_due", "_law_value", "_law_place", "_law_again"]
theorem sc_law : FnScope N_law ["_law_script"] (defScope s_law) := ⟨rfl, rfl, rfl, by decide +kernel, rfl, by decide +kernel, by decide +kernel⟩
structure Tx (K : PySem.W.Frag) (mg : Str → Option Value) : Prop where
  m_abs : mg "abs" = none
  m_int : mg "int" = none
  m_isinstance : mg "isinstance" = none
  m_len : mg "len" = none
  m_max : mg "max" = none
  m_min : mg "min" = none
  m_range : mg "range" = none
  m_repr : mg "repr" = none
  m_reversed : mg "reversed" = none
  m_str : mg "str" = none
  c_MAX_DIGITS : ∃ t, mg "MAX_DIGITS" = some (.int 1300 t)
  c_MAX_EXP : ∃ t, mg "MAX_EXP" = some (.int 1200 t)
  c_MAX_HEX_DIGITS : ∃ t, mg "MAX_HEX_DIGITS" = some (.int 300 t)
  c_MAX_HEX_EXP : ∃ t, mg "MAX_HEX_EXP" = some (.int 1400 t)
  s_DIGITS : ∃ t, mg "DIGITS" = some (.str (PySem.Str.ofString "0123456789") t)
  s_HEX_DIGITS : ∃ t, mg "HEX_DIGITS" = some (.str (PySem.Str.ofString "0123456789abcdef") t)
  sm : ∃ o, K.lookup sysModules = some o
  nd : PySem.W.nsIn K cStatics "sys.int_max_str_digits" = some none
  x_BadText : ∃ C fI, XTxt K mg (PySem.Str.ofString "BadText") (PySem.Str.ofString "place") C fI
  n_BadText : ∃ C, mg (PySem.Str.ofString "BadText") = some (.ref C)
  xf_BadText_place : XCat K mg (PySem.Str.ofString "BadText") (PySem.Str.ofString "place")
  e_BadText_BadText : ∀ CM : Addr, mg (PySem.Str.ofString "BadText") = some (.ref CM) → ∃ C, mg (PySem.Str.ofString "BadText") = some (.ref C) ∧ PySem.W.exmOne K (.ref C) (.ref CM) = some true
  f_count_of : Dfn K mg "count_of" s_count_of ["form"]
  f_raised : Dfn K mg "raised" s_raised ["base", "exponent"]
  f_shifted : Dfn K mg "shifted" s_shifted ["n", "shift"]
  f_log_of : Dfn K mg "log_of" s_log_of ["num", "den"]
  f_rounded_by : Dfn K mg "rounded_by" s_rounded_by ["way", "n", "d"]
  f_sign_at : Dfn K mg "sign_at" s_sign_at ["text", "at"]
  f_mantissa_at : Dfn K mg "mantissa_at" s_mantissa_at ["text", "at", "digits", "most"]
  f_check_infinite : Dfn K mg "check_infinite" s_check_infinite ["text", "at"]
  f_L_deck : Dfn K mg "_law_deck" s_L_deck ["_law_script"]
  f_L_draw : Dfn K mg "_law_draw" s_L_draw ["_law_deck_here", "_law_many"]
  f_L_power : Dfn K mg "_law_power" s_L_power ["_law_base", "_law_number"]
  f_L_numbers : Dfn K mg "_law_numbers" s_L_numbers ["_law_form_here"]
  f_L_between : Dfn K mg "_law_between" s_L_between ["_law_way", "_law_code_here", "_law_side"]
  f_fraction_of : Dfn K mg "fraction_of" s_fraction_of ["decimal"]
  f_exponent_at : Dfn K mg "exponent_at" s_exponent_at ["form", "num", "den"]
  f_greatest_read : Dfn K mg "greatest_read" s_greatest_read ["form", "way"]
  f_exponent_at_end : Dfn K mg "exponent_at_end" s_exponent_at_end ["text", "at", "most"]
  f_L_form : Dfn K mg "_law_form" s_L_form ["_law_deck_here"]
  f_L_code : Dfn K mg "_law_code" s_L_code ["_law_values", "_law_way", "_law_num", "_law_den"]
  f_L_near_middle : Dfn K mg "_law_near_middle" s_L_near_middle ["_law_deck_here", "_law_values"]
  f_rough_position : Dfn K mg "rough_position" s_rough_position ["form", "num", "den"]
  f_hex_parts : Dfn K mg "hex_parts" s_hex_parts ["text", "at"]
  f_decimal_parts : Dfn K mg "decimal_parts" s_decimal_parts ["text", "at"]
  f_L_text : Dfn K mg "_law_text" s_L_text ["_law_deck_here", "_law_values"]
  f_read_fraction : Dfn K mg "read_fraction" s_read_fraction ["form", "way", "num", "den"]
  f_parse_text : Dfn K mg "parse_text" s_parse_text ["value"]
  f_read : Dfn K mg "read" s_read ["form", "way", "decimal"]
  f_read_text : Dfn K mg "read_text" s_read_text ["form", "way", "value"]
  f_L_fails : Dfn K mg "_law_fails" s_L_fails ["_law_form_here", "_law_way", "_law_value"]
  f_law : Dfn K mg "law" s_law ["_law_script"]
section
variable {P : Program} {w : World} {K : PySem.W.Frag} {mg : Str → Option Value} {base : Heap}
theorem d_count_of (T : Tx K mg)  {f : Addr} {cdv : Value} {A : Around} {out : List Env} {s : Shared} {H : Hp} {E : XK} (hg : (bX P w K mg base N_count_of "count_of" s_count_of f cdv A out s H E).A.guards = some []) (hr : Room 0 (bX P w K mg base N_count_of "count_of" s_count_of f cdv A out s H E).A) :
    DSs (bX P w K mg base N_count_of "count_of" s_count_of f cdv A out s H E) (defBody s_count_of) t_count_of :=
  dss_cons (ds_asg (de_pv (pv 0)) (dg_seq rfl (dgs_cons (dg_name (pg_name (i := 1) sc_count_of.nd rfl (Or.inl rfl))) (dgs_cons (dg_name (pg_name (i := 2) sc_count_of.nd rfl (Or.inl rfl))) (dgs_cons (dg_name (pg_name (i := 3) sc_count_of.nd rfl (Or.inl rfl))) (dgs_nil)))))) (dss_one (ds_ret (de_op od_shl (de_op od_add (de_op od_sub (de_pv (pv 3)) (de_pv (pv 2))) (de_int)) (de_op od_sub (de_pv (pv 1)) (de_int)))))
theorem h_count_of (T : Tx K mg)  : Has P w K mg base 1 "count_of" ["form"] F_count_of :=
  okH T.f_count_of sc_count_of cnt_count_of (fun f cdv A out s H E hg hr => d_count_of T  hg hr) ok_count_of
theorem d_raised (T : Tx K mg)  {f : Addr} {cdv : Value} {A : Around} {out : List Env} {s : Shared} {H : Hp} {E : XK} (hg : (bX P w K mg base N_raised "raised" s_raised f cdv A out s H E).A.guards = some []) (hr : Room 0 (bX P w K mg base N_raised "raised" s_raised f cdv A out s H E).A) :
    DSs (bX P w K mg base N_raised "raised" s_raised f cdv A out s H E) (defBody s_raised) t_raised :=
  dss_cons (ds_set (i := 2) sc_raised.nd rfl (Or.inl rfl) (de_int)) (dss_cons (ds_for (di_revRg (de_bits (de_pv (pv 1))) (fun _ p => pi_revR (by rfl) T.m_reversed (prg_1 (by rfl) T.m_range p))) (dg_name (pg_name (i := 3) sc_raised.nd rfl (Or.inl rfl))) (dss_cons (ds_set (i := 2) sc_raised.nd rfl (Or.inl rfl) (de_op od_mul (de_pv (pv 2)) (de_pv (pv 2)))) (dss_one (ds_if (dt_cmp (od_eq hr.units) (de_op od_and (de_op od_shr (de_pv (pv 1)) (de_pv (pv 3))) (de_int)) (de_int) (nomark _)) (dss_one (ds_set (i := 2) sc_raised.nd rfl (Or.inl rfl) (de_op od_mul (de_pv (pv 2)) (de_pv (pv 0))))) (dss_nil))))) (dss_one (ds_ret (de_pv (pv 2)))))
theorem h_raised (T : Tx K mg)  : Has P w K mg base 1 "raised" ["base", "exponent"] F_raised :=
  okH T.f_raised sc_raised cnt_raised (fun f cdv A out s H E hg hr => d_raised T  hg hr) ok_raised
theorem d_shifted (T : Tx K mg)  {f : Addr} {cdv : Value} {A : Around} {out : List Env} {s : Shared} {H : Hp} {E : XK} (hg : (bX P w K mg base N_shifted "shifted" s_shifted f cdv A out s H E).A.guards = some []) (hr : Room 0 (bX P w K mg base N_shifted "shifted" s_shifted f cdv A out s H E).A) :
    DSs (bX P w K mg base N_shifted "shifted" s_shifted f cdv A out s H E) (defBody s_shifted) t_shifted :=
  dss_cons (ds_if (dt_cmp od_lt (de_pv (pv 1)) (de_int) (nomark _)) (dss_one (ds_ret (de_tup (da_cons (de_pv (pv 0)) (da_cons (de_op od_shl (de_int) (de_un ud_neg (de_pv (pv 1)))) (da_nil)))))) (dss_nil)) (dss_one (ds_ret (de_tup (da_cons (de_op od_shl (de_pv (pv 0)) (de_pv (pv 1))) (da_cons (de_int) (da_nil))))))
theorem h_shifted (T : Tx K mg)  : Has P w K mg base 1 "shifted" ["n", "shift"] F_shifted :=
  okH T.f_shifted sc_shifted cnt_shifted (fun f cdv A out s H E hg hr => d_shifted T  hg hr) ok_shifted
theorem d_log_of (T : Tx K mg)  {f : Addr} {cdv : Value} {A : Around} {out : List Env} {s : Shared} {H : Hp} {E : XK} (hg : (bX P w K mg base N_log_of "log_of" s_log_of f cdv A out s H E).A.guards = some []) (hr : Room 0 (bX P w K mg base N_log_of "log_of" s_log_of f cdv A out s H E).A) :
    DSs (bX P w K mg base N_log_of "log_of" s_log_of f cdv A out s H E) (defBody s_log_of) t_log_of :=
  dss_cons (ds_set (i := 2) sc_log_of.nd rfl (Or.inl rfl) (de_op od_sub (de_bits (de_pv (pv 0))) (de_bits (de_pv (pv 1))))) (dss_cons (ds_if (dt_cmp od_ge (de_pv (pv 2)) (de_int) (nomark _)) (dss_one (ds_set (i := 3) sc_log_of.nd rfl (Or.inl rfl) (de_cmp od_le (de_op od_shl (de_pv (pv 1)) (de_pv (pv 2))) (de_pv (pv 0)) (nomark _)))) (dss_one (ds_set (i := 3) sc_log_of.nd rfl (Or.inl rfl) (de_cmp od_le (de_pv (pv 1)) (de_op od_shl (de_pv (pv 0)) (de_un ud_neg (de_pv (pv 2)))) (nomark _))))) (dss_one (ds_ret (de_ifExp (dt_val (de_pv (pv 3))) (de_pv (pv 2)) (de_op od_sub (de_pv (pv 2)) (de_int))))))
theorem h_log_of (T : Tx K mg)  : Has P w K mg base 1 "log_of" ["num", "den"] F_log_of :=
  okH T.f_log_of sc_log_of cnt_log_of (fun f cdv A out s H E hg hr => d_log_of T  hg hr) ok_log_of
theorem d_rounded_by (T : Tx K mg)  {f : Addr} {cdv : Value} {A : Around} {out : List Env} {s : Shared} {H : Hp} {E : XK} (hg : (bX P w K mg base N_rounded_by "rounded_by" s_rounded_by f cdv A out s H E).A.guards = some []) (hr : Room 0 (bX P w K mg base N_rounded_by "rounded_by" s_rounded_by f cdv A out s H E).A) :
    DSs (bX P w K mg base N_rounded_by "rounded_by" s_rounded_by f cdv A out s H E) (defBody s_rounded_by) t_rounded_by :=
  dss_cons (ds_set (i := 3) sc_rounded_by.nd rfl (Or.inl rfl) (de_op od_fdiv (de_pv (pv 1)) (de_pv (pv 2)))) (dss_cons (ds_set (i := 4) sc_rounded_by.nd rfl (Or.inl rfl) (de_op od_mod (de_pv (pv 1)) (de_pv (pv 2)))) (dss_cons (ds_if (DW.dt (dw_or (dt_cmp (od_eq hr.units) (de_pv (pv 4)) (de_int) (nomark _)) (dw_or1 (dt_cmp (od_eq hr.units) (de_pv (pv 0)) (de_str) (nomark _))))) (dss_one (ds_ret (de_pv (pv 3)))) (dss_nil)) (dss_cons (ds_if (dt_cmp (od_eq hr.units) (de_pv (pv 0)) (de_str) (nomark _)) (dss_one (ds_ret (de_op od_add (de_pv (pv 3)) (de_int)))) (dss_nil)) (dss_cons (ds_if (dt_cmp (od_eq hr.units) (de_pv (pv 0)) (de_str) (nomark _)) (dss_one (ds_ret (de_op od_or (de_pv (pv 3)) (de_int)))) (dss_nil)) (dss_cons (ds_if (dt_cmp (od_eq hr.units) (de_op od_mul (de_int) (de_pv (pv 4))) (de_pv (pv 2)) (nomark _)) (dss_one (ds_ret (de_ifExp (dt_cmp (od_eq hr.units) (de_pv (pv 0)) (de_str) (nomark _)) (de_op od_add (de_pv (pv 3)) (de_int)) (de_op od_add (de_pv (pv 3)) (de_op od_mod (de_pv (pv 3)) (de_int)))))) (dss_nil)) (dss_one (ds_ret (de_ifExp (dt_cmp od_gt (de_op od_mul (de_int) (de_pv (pv 4))) (de_pv (pv 2)) (nomark _)) (de_op od_add (de_pv (pv 3)) (de_int)) (de_pv (pv 3))))))))))
theorem h_rounded_by (T : Tx K mg)  : Has P w K mg base 1 "rounded_by" ["way", "n", "d"] F_rounded_by :=
  okH T.f_rounded_by sc_rounded_by cnt_rounded_by (fun f cdv A out s H E hg hr => d_rounded_by T  hg hr) ok_rounded_by
theorem d_sign_at (T : Tx K mg)  {f : Addr} {cdv : Value} {A : Around} {out : List Env} {s : Shared} {H : Hp} {E : XK} (hg : (bX P w K mg base N_sign_at "sign_at" s_sign_at f cdv A out s H E).A.guards = some []) (hr : Room 0 (bX P w K mg base N_sign_at "sign_at" s_sign_at f cdv A out s H E).A) :
    DSs (bX P w K mg base N_sign_at "sign_at" s_sign_at f cdv A out s H E) (defBody s_sign_at) t_sign_at :=
  dss_cons (ds_if (dt_cmp (od_eq hr.units) (de_sliceS (de_pv (pv 0)) (do_some (de_pv (pv 1))) (do_some (de_op od_add (de_pv (pv 1)) (de_int)))) (de_str) (nomark _)) (dss_one (ds_ret (de_tup (da_cons (de_int) (da_cons (de_op od_add (de_pv (pv 1)) (de_int)) (da_nil)))))) (dss_nil)) (dss_cons (ds_if (dt_cmp (od_eq hr.units) (de_sliceS (de_pv (pv 0)) (do_some (de_pv (pv 1))) (do_some (de_op od_add (de_pv (pv 1)) (de_int)))) (de_str) (nomark _)) (dss_one (ds_ret (de_tup (da_cons (de_int) (da_cons (de_op od_add (de_pv (pv 1)) (de_int)) (da_nil)))))) (dss_nil)) (dss_one (ds_ret (de_tup (da_cons (de_int) (da_cons (de_pv (pv 1)) (da_nil)))))))
theorem h_sign_at (T : Tx K mg)  : Has P w K mg base 1 "sign_at" ["text", "at"] F_sign_at :=
  okH T.f_sign_at sc_sign_at cnt_sign_at (fun f cdv A out s H E hg hr => d_sign_at T  hg hr) ok_sign_at
theorem d_mantissa_at (T : Tx K mg)  {f : Addr} {cdv : Value} {A : Around} {out : List Env} {s : Shared} {H : Hp} {E : XK} (hg : (bXx P w K mg base N_mantissa_at "mantissa_at" s_mantissa_at f cdv A out s H E).A.guards = some []) (hr : Room 0 (bXx P w K mg base N_mantissa_at "mantissa_at" s_mantissa_at f cdv A out s H E).A) :
    DSXs (bXx P w K mg base N_mantissa_at "mantissa_at" s_mantissa_at f cdv A out s H E) (defBody s_mantissa_at) t_mantissa_at :=
  dsxs_cons (dsx_of (ds_asg (de_tup (da_cons (de_int) (da_cons (de_int) (da_cons (de_non) (da_nil))))) (dg_seq rfl (dgs_cons (dg_name (pg_name (i := 4) sc_mantissa_at.nd rfl (Or.inl rfl))) (dgs_cons (dg_name (pg_name (i := 5) sc_mantissa_at.nd rfl (Or.inl rfl))) (dgs_cons (dg_name (pg_name (i := 6) sc_mantissa_at.nd rfl (Or.inl rfl))) (dgs_nil))))))) (dsxs_cons (dsx_of (ds_while (dt_cmp od_lt (de_pv (pv 1)) (de_callB cd_lenS (by rfl) T.m_len (by decide +kernel) (da_cons (de_pv (pv 0)) (da_nil))) (nomark _)) (dss_cons (ds_if (DW.dt (dw_and (dt_cmp (od_eq hr.units) (de_ixS (de_pv (pv 0)) (de_pv (pv 1))) (de_str) (nomark _)) (dw_and1 (dt_cmp od_isN (de_pv (pv 6)) (de_non) (nomark _))))) (dss_one (ds_set (i := 6) sc_mantissa_at.nd rfl (Or.inl rfl) (de_pv (pv 5)))) (dss_one (ds_if (DW.dt (dw_and (dt_cmp od_inC (de_ixS (de_pv (pv 0)) (de_pv (pv 1))) (de_pv (pv 2)) (by rfl)) (dw_and1 (dt_cmp od_lt (de_pv (pv 5)) (de_pv (pv 3)) (nomark _))))) (dss_cons (ds_set (i := 4) sc_mantissa_at.nd rfl (Or.inl rfl) (de_op od_add (de_op od_mul (de_pv (pv 4)) (de_callB cd_lenS (by rfl) T.m_len (by decide +kernel) (da_cons (de_pv (pv 2)) (da_nil)))) (de_find (de_pv (pv 2)) (de_ixS (de_pv (pv 0)) (de_pv (pv 1)))))) (dss_one (ds_aug (i := 5) sc_mantissa_at.nd rfl (Or.inl rfl) (de_int)))) (dss_one (ds_break))))) (dss_one (ds_aug (i := 1) sc_mantissa_at.nd rfl (Or.inl rfl) (de_int)))) (hp := fun _ _ a b => ps_while (passes_of rfl) a b))) (dsxs_cons (dsx_if (dt_cmp (od_eq hr.units) (de_pv (pv 5)) (de_int) (nomark _)) (dsxs_one (dsx_raiseT T.x_BadText rfl hr (da_cons (de_pv (pv 1)) (da_nil)))) (dsxs_of (dss_nil))) (dsxs_of (dss_one (ds_ret (de_tup (da_cons (de_pv (pv 4)) (da_cons (de_ifExp (dt_cmp od_isN (de_pv (pv 6)) (de_non) (nomark _)) (de_int) (de_op od_sub (de_pv (pv 5)) (de_pv (pv 6)))) (da_cons (de_pv (pv 1)) (da_nil))))))))))
theorem h_mantissa_at (T : Tx K mg)  : HasX P w K mg base 1 "mantissa_at" ["text", "at", "digits", "most"] F_mantissa_at :=
  okHX T.f_mantissa_at sc_mantissa_at cnt_mantissa_at (fun f cdv A out s H E hg hr => d_mantissa_at T  hg hr) ok_mantissa_at
theorem d_check_infinite (T : Tx K mg)  {f : Addr} {cdv : Value} {A : Around} {out : List Env} {s : Shared} {H : Hp} {E : XK} (hg : (bX P w K mg base N_check_infinite "check_infinite" s_check_infinite f cdv A out s H E).A.guards = some []) (hr : Room 0 (bX P w K mg base N_check_infinite "check_infinite" s_check_infinite f cdv A out s H E).A) :
    DSs (bX P w K mg base N_check_infinite "check_infinite" s_check_infinite f cdv A out s H E) (defBody s_check_infinite) t_check_infinite :=
  dss_cons (ds_for (di_str (de_str)) (dg_name (pg_name (i := 2) sc_check_infinite.nd rfl (Or.inl rfl))) (dss_cons (ds_if (dt_cmp (od_ne hr.units) (de_sliceS (de_pv (pv 0)) (do_some (de_pv (pv 1))) (do_some (de_op od_add (de_pv (pv 1)) (de_int)))) (de_pv (pv 2)) (nomark _)) (dss_one (ds_never)) (dss_nil)) (dss_one (ds_aug (i := 1) sc_check_infinite.nd rfl (Or.inl rfl) (de_int))))) (dss_one (ds_if (dt_cmp od_lt (de_pv (pv 1)) (de_callB cd_lenS (by rfl) T.m_len (by decide +kernel) (da_cons (de_pv (pv 0)) (da_nil))) (nomark _)) (dss_one (ds_never)) (dss_nil)))
theorem h_check_infinite (T : Tx K mg)  : Has P w K mg base 1 "check_infinite" ["text", "at"] F_check_infinite :=
  okH T.f_check_infinite sc_check_infinite cnt_check_infinite (fun f cdv A out s H E hg hr => d_check_infinite T  hg hr) ok_check_infinite
theorem d_L_deck (T : Tx K mg)  {f : Addr} {cdv : Value} {A : Around} {out : List Env} {s : Shared} {H : Hp} {E : XK} (hg : (bX P w K mg base N_L_deck "_law_deck" s_L_deck f cdv A out s H E).A.guards = some []) (hr : Room 0 (bX P w K mg base N_L_deck "_law_deck" s_L_deck f cdv A out s H E).A) :
    DSs (bX P w K mg base N_L_deck "_law_deck" s_L_deck f cdv A out s H E) (defBody s_L_deck) t_L_deck :=
  dss_one (ds_ret (de_lst (da_cons (de_lc (own := [("_law_cell", 1)]) (di_list (de_slice (de_pv (pv 0)) (do_none) (do_some (de_int)))) (cg_name (by decide)) lcYes (fun _ _ _ _ _ => de_callB cd_abs (by rfl) T.m_abs (by decide +kernel) (da_cons (de_pv (pv 1)) (da_nil))) (fun _ _ _ a b c => pe_lc (own := [("_law_cell", 1)]) rfl sc_L_deck.nd a (blkOk_by (N := N_L_deck) (sc := defScope s_L_deck) (by decide +kernel)) (fun _ _ _ _ _ => pg_name (i := 1) sc_L_deck.nd rfl (Or.inl rfl)) b c)) (da_cons (de_int) (da_nil)))))
theorem h_L_deck (T : Tx K mg)  : Has P w K mg base 1 "_law_deck" ["_law_script"] F_L_deck :=
  okH T.f_L_deck sc_L_deck cnt_L_deck (fun f cdv A out s H E hg hr => d_L_deck T  hg hr) ok_L_deck
theorem d_L_draw (T : Tx K mg)  {f : Addr} {cdv : Value} {A : Around} {out : List Env} {s : Shared} {H : Hp} {E : XK} (hg : (bX P w K mg base N_L_draw "_law_draw" s_L_draw f cdv A out s H E).A.guards = some []) (hr : Room 0 (bX P w K mg base N_L_draw "_law_draw" s_L_draw f cdv A out s H E).A) :
    DSs (bX P w K mg base N_L_draw "_law_draw" s_L_draw f cdv A out s H E) (defBody s_L_draw) t_L_draw :=
  dss_cons (ds_asg (de_op od_add (de_ix id_ix (de_pv (pv 0)) (de_int)) (de_int)) (dg_box (de_pv (pv 0)) (de_int))) (dss_cons (ds_set (i := 2) sc_L_draw.nd rfl (Or.inl rfl) (de_op od_mod (de_callTy cd_int (by rfl) T.m_int (by decide +kernel) (da_cons (de_ix id_ix (de_pv (pv 0)) (de_int)) (da_nil))) (de_callB (cd_max2 rfl) (by rfl) T.m_max (by decide +kernel) (da_cons (de_int) (da_cons (de_callB cd_len (by rfl) T.m_len (by decide +kernel) (da_cons (de_ix id_ix (de_pv (pv 0)) (de_int)) (da_nil))) (da_nil)))))) (dss_cons (ds_set (i := 3) sc_L_draw.nd rfl (Or.inl rfl) (de_ix id_ix (de_op od_add (de_ix id_ix (de_pv (pv 0)) (de_int)) (de_lst (da_cons (de_int) (da_nil)))) (de_pv (pv 2)))) (dss_cons (ds_if (dt_cmp od_ge (de_pv (pv 3)) (de_op od_pow (de_int) (de_int)) (nomark _)) (dss_cons (ds_asg (de_op od_fdiv (de_pv (pv 3)) (de_pv (pv 1))) (dg_box (de_ix id_ix (de_pv (pv 0)) (de_int)) (de_pv (pv 2)))) (dss_one (ds_ret (de_op od_mod (de_callTy cd_int (by rfl) T.m_int (by decide +kernel) (da_cons (de_pv (pv 3)) (da_nil))) (de_pv (pv 1)))))) (dss_nil)) (dss_cons (ds_set (i := 4) sc_L_draw.nd rfl (Or.inl rfl) (de_op od_pow (de_op od_add (de_op od_add (de_op od_mod (de_callTy cd_int (by rfl) T.m_int (by decide +kernel) (da_cons (de_pv (pv 3)) (da_nil))) (de_int)) (de_op od_mul (de_int) (de_ix id_ix (de_pv (pv 0)) (de_int)))) (de_int)) (de_int))) (dss_one (ds_ret (de_op od_mod (de_callTy cd_int (by rfl) T.m_int (by decide +kernel) (da_cons (de_op od_mod (de_callTy cd_int (by rfl) T.m_int (by decide +kernel) (da_cons (de_pv (pv 4)) (da_nil))) (de_int)) (da_nil))) (de_pv (pv 1)))))))))
theorem h_L_draw (T : Tx K mg)  : Has P w K mg base 1 "_law_draw" ["_law_deck_here", "_law_many"] F_L_draw :=
  okH T.f_L_draw sc_L_draw cnt_L_draw (fun f cdv A out s H E hg hr => d_L_draw T  hg hr) ok_L_draw
theorem d_L_power (T : Tx K mg)  {f : Addr} {cdv : Value} {A : Around} {out : List Env} {s : Shared} {H : Hp} {E : XK} (hg : (bX P w K mg base N_L_power "_law_power" s_L_power f cdv A out s H E).A.guards = some []) (hr : Room 0 (bX P w K mg base N_L_power "_law_power" s_L_power f cdv A out s H E).A) :
    DSs (bX P w K mg base N_L_power "_law_power" s_L_power f cdv A out s H E) (defBody s_L_power) t_L_power :=
  dss_cons (ds_set (i := 2) sc_L_power.nd rfl (Or.inl rfl) (de_int)) (dss_cons (ds_for (di_range1 (by rfl) T.m_range (da_cons (de_pv (pv 1)) (da_nil)) (fun _ p => pi_range1 (by rfl) T.m_range p)) (dg_name (pg_name (i := 3) sc_L_power.nd rfl (Or.inl rfl))) (dss_one (ds_set (i := 2) sc_L_power.nd rfl (Or.inl rfl) (de_op od_mul (de_pv (pv 2)) (de_pv (pv 0)))))) (dss_one (ds_ret (de_pv (pv 2)))))
theorem h_L_power (T : Tx K mg)  : Has P w K mg base 1 "_law_power" ["_law_base", "_law_number"] F_L_power :=
  okH T.f_L_power sc_L_power cnt_L_power (fun f cdv A out s H E hg hr => d_L_power T  hg hr) ok_L_power
theorem d_L_numbers (T : Tx K mg)  {f : Addr} {cdv : Value} {A : Around} {out : List Env} {s : Shared} {H : Hp} {E : XK} (hg : (bX P w K mg base N_L_numbers "_law_numbers" s_L_numbers f cdv A out s H E).A.guards = some []) (hr : Room 0 (bX P w K mg base N_L_numbers "_law_numbers" s_L_numbers f cdv A out s H E).A) :
    DSs (bX P w K mg base N_L_numbers "_law_numbers" s_L_numbers f cdv A out s H E) (defBody s_L_numbers) t_L_numbers :=
  dss_cons (ds_asg (de_pv (pv 0)) (dg_seq rfl (dgs_cons (dg_name (pg_name (i := 1) sc_L_numbers.nd rfl (Or.inl rfl))) (dgs_cons (dg_name (pg_name (i := 2) sc_L_numbers.nd rfl (Or.inr rfl))) (dgs_cons (dg_name (pg_name (i := 3) sc_L_numbers.nd rfl (Or.inl rfl))) (dgs_nil)))))) (dss_cons (ds_setLc (i := 4) (own := [("_law_m", 6)]) (di_range1 (by rfl) T.m_range (da_cons (de_op od_shl (de_int) (de_pv (pv 1))) (da_nil)) (fun _ p => pi_range1 (by rfl) T.m_range p)) (cg_name (by decide)) lcYes (fun _ _ _ _ _ => de_op od_shl (de_pv (pv 6)) (de_op od_add (de_pv (pv 2)) (de_int))) (fun _ _ _ a b c => ps_setLc (i := 4) (own := [("_law_m", 6)]) rfl sc_L_numbers.nd rfl rfl (sw_true rfl rfl rfl (by decide +kernel)) a (blkOk_by (N := N_L_numbers) (sc := defScope s_L_numbers) (by decide +kernel)) (fun _ _ _ _ _ => pg_name (i := 6) sc_L_numbers.nd rfl (Or.inl rfl)) b c)) (dss_cons (ds_for (di_rangeW (da_cons (de_op od_add (de_pv (pv 2)) (de_int)) (da_cons (de_op od_add (de_pv (pv 3)) (de_int)) (da_nil))) (fun _ p => pi_rangeW (by rfl) T.m_range p)) (dg_name (pg_name (i := 5) sc_L_numbers.nd rfl (Or.inr rfl))) (dss_one (ds_set (i := 4) sc_L_numbers.nd rfl (Or.inl rfl) (de_op od_add (de_pv (pv 4)) (de_lc (own := [("_law_m", 6)]) (di_rangeW (da_cons (de_op od_shl (de_int) (de_op od_sub (de_pv (pv 1)) (de_int))) (da_cons (de_op od_shl (de_int) (de_pv (pv 1))) (da_nil))) (fun _ p => pi_rangeW (by rfl) T.m_range p)) (cg_name (by decide)) lcYes (fun _ _ _ _ _ => de_op od_shl (de_pv (pv 6)) (de_op od_add (de_pv (pv 5)) (de_int))) (fun _ _ _ a b c => pe_lc (own := [("_law_m", 6)]) rfl sc_L_numbers.nd a (blkOk_by (N := N_L_numbers) (sc := defScope s_L_numbers) (by decide +kernel)) (fun _ _ _ _ _ => pg_name (i := 6) sc_L_numbers.nd rfl (Or.inl rfl)) b c)))))) (dss_one (ds_ret (de_op od_add (de_pv (pv 4)) (de_lst (da_cons (de_op od_shl (de_int) (de_op od_add (de_op od_add (de_pv (pv 1)) (de_pv (pv 3))) (de_int))) (da_nil))))))))
theorem h_L_numbers (T : Tx K mg)  : Has P w K mg base 1 "_law_numbers" ["_law_form_here"] F_L_numbers :=
  okH T.f_L_numbers sc_L_numbers cnt_L_numbers (fun f cdv A out s H E hg hr => d_L_numbers T  hg hr) ok_L_numbers
theorem d_L_between (T : Tx K mg)  {f : Addr} {cdv : Value} {A : Around} {out : List Env} {s : Shared} {H : Hp} {E : XK} (hg : (bX P w K mg base N_L_between "_law_between" s_L_between f cdv A out s H E).A.guards = some []) (hr : Room 0 (bX P w K mg base N_L_between "_law_between" s_L_between f cdv A out s H E).A) :
    DSs (bX P w K mg base N_L_between "_law_between" s_L_between f cdv A out s H E) (defBody s_L_between) t_L_between :=
  dss_cons (ds_set (i := 3) sc_L_between.nd rfl (Or.inl rfl) (de_op od_sub (de_op od_add (de_pv (pv 1)) (de_int)) (de_op od_mod (de_callTy cd_int (by rfl) T.m_int (by decide +kernel) (da_cons (de_pv (pv 1)) (da_nil))) (de_int)))) (dss_cons (ds_if (dt_cmp od_in (de_pv (pv 0)) (de_tup (da_cons (de_str) (da_cons (de_str) (da_cons (de_str) (da_nil))))) (by rfl)) (dss_one (ds_ret (de_ixD hr.units (de_disp (dps_cons (de_str) (de_pv (pv 1)) (dps_cons (de_str) (de_op od_add (de_pv (pv 1)) (de_int)) (dps_cons (de_str) (de_pv (pv 3)) (dps_nil)))) (by decide +kernel) (by decide)) (de_pv (pv 0))))) (dss_nil)) (dss_cons (ds_if (dt_cmp (od_eq hr.units) (de_pv (pv 2)) (de_int) (nomark _)) (dss_one (ds_ret (de_ifExp (dt_cmp (od_eq hr.units) (de_pv (pv 0)) (de_str) (nomark _)) (de_op od_add (de_pv (pv 1)) (de_int)) (de_op od_add (de_pv (pv 1)) (de_op od_mod (de_callTy cd_int (by rfl) T.m_int (by decide +kernel) (da_cons (de_pv (pv 1)) (da_nil))) (de_int)))))) (dss_nil)) (dss_one (ds_ret (de_op od_add (de_pv (pv 1)) (de_callTy cd_int (by rfl) T.m_int (by decide +kernel) (da_cons (de_cmp od_gt (de_pv (pv 2)) (de_int) (nomark _)) (da_nil))))))))
theorem h_L_between (T : Tx K mg)  : Has P w K mg base 1 "_law_between" ["_law_way", "_law_code_here", "_law_side"] F_L_between :=
  okH T.f_L_between sc_L_between cnt_L_between (fun f cdv A out s H E hg hr => d_L_between T  hg hr) ok_L_between
theorem d_fraction_of (T : Tx K mg) (H_raised : Has P w K mg base 1 "raised" ["base", "exponent"] F_raised) {f : Addr} {cdv : Value} {A : Around} {out : List Env} {s : Shared} {H : Hp} {E : XK} (hg : (bX P w K mg base N_fraction_of "fraction_of" s_fraction_of f cdv A out s H E).A.guards = some []) (hr : Room 1 (bX P w K mg base N_fraction_of "fraction_of" s_fraction_of f cdv A out s H E).A) :
    DSs (bX P w K mg base N_fraction_of "fraction_of" s_fraction_of f cdv A out s H E) (defBody s_fraction_of) t_fraction_of :=
  dss_cons (ds_asg (de_pv (pv 0)) (dg_seq rfl (dgs_cons (dg_name (pg_name (i := 1) sc_fraction_of.nd rfl (Or.inl rfl))) (dgs_cons (dg_name (pg_name (i := 2) sc_fraction_of.nd rfl (Or.inl rfl))) (dgs_nil))))) (dss_cons (ds_if (dt_cmp od_lt (de_pv (pv 2)) (de_int) (nomark _)) (dss_one (ds_ret (de_tup (da_cons (de_pv (pv 1)) (da_cons (de_callH H_raised hg (hr.mono (by decide)) (by rfl) (da_cons (de_int) (da_cons (de_un ud_neg (de_pv (pv 2))) (da_nil)))) (da_nil)))))) (dss_nil)) (dss_one (ds_ret (de_tup (da_cons (de_op od_mul (de_pv (pv 1)) (de_callH H_raised hg (hr.mono (by decide)) (by rfl) (da_cons (de_int) (da_cons (de_pv (pv 2)) (da_nil))))) (da_cons (de_int) (da_nil)))))))
theorem h_fraction_of (T : Tx K mg) (H_raised : Has P w K mg base 1 "raised" ["base", "exponent"] F_raised) : Has P w K mg base 2 "fraction_of" ["decimal"] F_fraction_of :=
  okH T.f_fraction_of sc_fraction_of cnt_fraction_of (fun f cdv A out s H E hg hr => d_fraction_of T H_raised hg hr) ok_fraction_of
theorem d_exponent_at (T : Tx K mg) (H_log_of : Has P w K mg base 1 "log_of" ["num", "den"] F_log_of) {f : Addr} {cdv : Value} {A : Around} {out : List Env} {s : Shared} {H : Hp} {E : XK} (hg : (bX P w K mg base N_exponent_at "exponent_at" s_exponent_at f cdv A out s H E).A.guards = some []) (hr : Room 1 (bX P w K mg base N_exponent_at "exponent_at" s_exponent_at f cdv A out s H E).A) :
    DSs (bX P w K mg base N_exponent_at "exponent_at" s_exponent_at f cdv A out s H E) (defBody s_exponent_at) t_exponent_at :=
  dss_cons (ds_asg (de_pv (pv 0)) (dg_seq rfl (dgs_cons (dg_name (pg_name (i := 3) sc_exponent_at.nd rfl (Or.inl rfl))) (dgs_cons (dg_name (pg_name (i := 4) sc_exponent_at.nd rfl (Or.inl rfl))) (dgs_cons (dg_name (pg_name (i := 5) sc_exponent_at.nd rfl (Or.inl rfl))) (dgs_nil)))))) (dss_cons (ds_if (dt_cmp (od_eq hr.units) (de_pv (pv 1)) (de_int) (nomark _)) (dss_one (ds_ret (de_pv (pv 4)))) (dss_nil)) (dss_one (ds_ret (de_callB (cd_max2 rfl) (by rfl) T.m_max (by decide +kernel) (da_cons (de_pv (pv 4)) (da_cons (de_callB (cd_min2 rfl) (by rfl) T.m_min (by decide +kernel) (da_cons (de_pv (pv 5)) (da_cons (de_op od_add (de_op od_sub (de_callH H_log_of hg (hr.mono (by decide)) (by rfl) (da_cons (de_pv (pv 1)) (da_cons (de_pv (pv 2)) (da_nil)))) (de_pv (pv 3))) (de_int)) (da_nil)))) (da_nil)))))))
theorem h_exponent_at (T : Tx K mg) (H_log_of : Has P w K mg base 1 "log_of" ["num", "den"] F_log_of) : Has P w K mg base 2 "exponent_at" ["form", "num", "den"] F_exponent_at :=
  okH T.f_exponent_at sc_exponent_at cnt_exponent_at (fun f cdv A out s H E hg hr => d_exponent_at T H_log_of hg hr) ok_exponent_at
theorem d_greatest_read (T : Tx K mg) (H_count_of : Has P w K mg base 1 "count_of" ["form"] F_count_of) {f : Addr} {cdv : Value} {A : Around} {out : List Env} {s : Shared} {H : Hp} {E : XK} (hg : (bX P w K mg base N_greatest_read "greatest_read" s_greatest_read f cdv A out s H E).A.guards = some []) (hr : Room 1 (bX P w K mg base N_greatest_read "greatest_read" s_greatest_read f cdv A out s H E).A) :
    DSs (bX P w K mg base N_greatest_read "greatest_read" s_greatest_read f cdv A out s H E) (defBody s_greatest_read) t_greatest_read :=
  dss_cons (ds_set (i := 2) sc_greatest_read.nd rfl (Or.inl rfl) (de_callH H_count_of hg (hr.mono (by decide)) (by rfl) (da_cons (de_pv (pv 0)) (da_nil)))) (dss_cons (ds_if (dt_cmp (od_eq hr.units) (de_pv (pv 1)) (de_str) (nomark _)) (dss_one (ds_ret (de_op od_sub (de_pv (pv 2)) (de_int)))) (dss_nil)) (dss_cons (ds_if (dt_cmp (od_eq hr.units) (de_pv (pv 1)) (de_str) (nomark _)) (dss_one (ds_ret (de_op od_or (de_op od_sub (de_pv (pv 2)) (de_int)) (de_int)))) (dss_nil)) (dss_one (ds_ret (de_pv (pv 2))))))
theorem h_greatest_read (T : Tx K mg) (H_count_of : Has P w K mg base 1 "count_of" ["form"] F_count_of) : Has P w K mg base 2 "greatest_read" ["form", "way"] F_greatest_read :=
  okH T.f_greatest_read sc_greatest_read cnt_greatest_read (fun f cdv A out s H E hg hr => d_greatest_read T H_count_of hg hr) ok_greatest_read
theorem d_exponent_at_end (T : Tx K mg) (H_sign_at : Has P w K mg base 1 "sign_at" ["text", "at"] F_sign_at) {f : Addr} {cdv : Value} {A : Around} {out : List Env} {s : Shared} {H : Hp} {E : XK} (hg : (bXx P w K mg base N_exponent_at_end "exponent_at_end" s_exponent_at_end f cdv A out s H E).A.guards = some []) (hr : Room 1 (bXx P w K mg base N_exponent_at_end "exponent_at_end" s_exponent_at_end f cdv A out s H E).A) :
    DSXs (bXx P w K mg base N_exponent_at_end "exponent_at_end" s_exponent_at_end f cdv A out s H E) (defBody s_exponent_at_end) t_exponent_at_end :=
  dsxs_cons (dsx_of (ds_asg (de_callH H_sign_at hg (hr.mono (by decide)) (by rfl) (da_cons (de_pv (pv 0)) (da_cons (de_pv (pv 1)) (da_nil)))) (dg_seq rfl (dgs_cons (dg_name (pg_name (i := 3) sc_exponent_at_end.nd rfl (Or.inl rfl))) (dgs_cons (dg_name (pg_name (i := 1) sc_exponent_at_end.nd rfl (Or.inl rfl))) (dgs_nil)))))) (dsxs_cons (dsx_if (dt_cmp (od_eq hr.units) (de_pv (pv 1)) (de_callB cd_lenS (by rfl) T.m_len (by decide +kernel) (da_cons (de_pv (pv 0)) (da_nil))) (nomark _)) (dsxs_one (dsx_raiseT T.x_BadText rfl hr (da_cons (de_pv (pv 1)) (da_nil)))) (dsxs_of (dss_nil))) (dsxs_cons (dsx_of (ds_set (i := 4) sc_exponent_at_end.nd rfl (Or.inl rfl) (de_int))) (dsxs_cons (dsx_for (di_rangeW (da_cons (de_pv (pv 1)) (da_cons (de_callB cd_lenS (by rfl) T.m_len (by decide +kernel) (da_cons (de_pv (pv 0)) (da_nil))) (da_nil))) (fun _ p => pi_rangeW (by rfl) T.m_range p)) (dg_name (pg_name (i := 5) sc_exponent_at_end.nd rfl (Or.inl rfl))) (dsxs_cons (dsx_if (dt_cmp od_notInC (de_ixS (de_pv (pv 0)) (de_pv (pv 5))) (de_c (pe_glob (v := .str (PySem.Str.ofString "0123456789")) rfl T.s_DIGITS.choose_spec ⟨_, rfl⟩) (fun _ _ _ _ => rfl)) (by rfl)) (dsxs_one (dsx_raiseT T.x_BadText rfl hr (da_cons (de_pv (pv 5)) (da_nil)))) (dsxs_of (dss_nil))) (dsxs_cons (dsx_of (ds_set (i := 4) sc_exponent_at_end.nd rfl (Or.inl rfl) (de_op od_add (de_op od_mul (de_pv (pv 4)) (de_int)) (de_find (de_c (pe_glob (v := .str (PySem.Str.ofString "0123456789")) rfl T.s_DIGITS.choose_spec ⟨_, rfl⟩) (fun _ _ _ _ => rfl)) (de_ixS (de_pv (pv 0)) (de_pv (pv 5))))))) (dsxs_one (dsx_if (dt_cmp od_gt (de_pv (pv 4)) (de_pv (pv 2)) (nomark _)) (dsxs_one (dsx_raiseT T.x_BadText rfl hr (da_cons (de_pv (pv 5)) (da_nil)))) (dsxs_of (dss_nil))))))) (dsxs_of (dss_one (ds_ret (de_ifExp (dt_cmp (od_eq hr.units) (de_pv (pv 3)) (de_int) (nomark _)) (de_un ud_neg (de_pv (pv 4))) (de_pv (pv 4)))))))))
theorem h_exponent_at_end (T : Tx K mg) (H_sign_at : Has P w K mg base 1 "sign_at" ["text", "at"] F_sign_at) : HasX P w K mg base 2 "exponent_at_end" ["text", "at", "most"] F_exponent_at_end :=
  okHX T.f_exponent_at_end sc_exponent_at_end cnt_exponent_at_end (fun f cdv A out s H E hg hr => d_exponent_at_end T H_sign_at hg hr) ok_exponent_at_end
theorem d_L_form (T : Tx K mg) (H_L_draw : Has P w K mg base 1 "_law_draw" ["_law_deck_here", "_law_many"] F_L_draw) {f : Addr} {cdv : Value} {A : Around} {out : List Env} {s : Shared} {H : Hp} {E : XK} (hg : (bX P w K mg base N_L_form "_law_form" s_L_form f cdv A out s H E).A.guards = some []) (hr : Room 1 (bX P w K mg base N_L_form "_law_form" s_L_form f cdv A out s H E).A) :
    DSs (bX P w K mg base N_L_form "_law_form" s_L_form f cdv A out s H E) (defBody s_L_form) t_L_form :=
  dss_cons (ds_set (i := 1) sc_L_form.nd rfl (Or.inl rfl) (de_op od_sub (de_callH H_L_draw hg (hr.mono (by decide)) (by rfl) (da_cons (de_pv (pv 0)) (da_cons (de_int) (da_nil)))) (de_int))) (dss_one (ds_ret (de_tup (da_cons (de_op od_add (de_int) (de_callH H_L_draw hg (hr.mono (by decide)) (by rfl) (da_cons (de_pv (pv 0)) (da_cons (de_int) (da_nil))))) (da_cons (de_pv (pv 1)) (da_cons (de_op od_add (de_pv (pv 1)) (de_callH H_L_draw hg (hr.mono (by decide)) (by rfl) (da_cons (de_pv (pv 0)) (da_cons (de_callB (cd_min2 rfl) (by rfl) T.m_min (by decide +kernel) (da_cons (de_int) (da_cons (de_op od_sub (de_int) (de_pv (pv 1))) (da_nil)))) (da_nil))))) (da_nil)))))))
theorem h_L_form (T : Tx K mg) (H_L_draw : Has P w K mg base 1 "_law_draw" ["_law_deck_here", "_law_many"] F_L_draw) : Has P w K mg base 2 "_law_form" ["_law_deck_here"] F_L_form :=
  okH T.f_L_form sc_L_form cnt_L_form (fun f cdv A out s H E hg hr => d_L_form T H_L_draw hg hr) ok_L_form
theorem d_L_code (T : Tx K mg) (H_L_between : Has P w K mg base 1 "_law_between" ["_law_way", "_law_code_here", "_law_side"] F_L_between) {f : Addr} {cdv : Value} {A : Around} {out : List Env} {s : Shared} {H : Hp} {E : XK} (hg : (bX P w K mg base N_L_code "_law_code" s_L_code f cdv A out s H E).A.guards = some []) (hr : Room 1 (bX P w K mg base N_L_code "_law_code" s_L_code f cdv A out s H E).A) :
    DSs (bX P w K mg base N_L_code "_law_code" s_L_code f cdv A out s H E) (defBody s_L_code) t_L_code :=
  dss_cons (ds_asg (de_tup (da_cons (de_op od_sub (de_callB cd_len (by rfl) T.m_len (by decide +kernel) (da_cons (de_pv (pv 0)) (da_nil))) (de_int)) (da_cons (de_op od_mul (de_pv (pv 2)) (de_int)) (da_nil)))) (dg_seq rfl (dgs_cons (dg_name (pg_name (i := 4) sc_L_code.nd rfl (Or.inl rfl))) (dgs_cons (dg_name (pg_name (i := 5) sc_L_code.nd rfl (Or.inr rfl))) (dgs_nil))))) (dss_cons (ds_if (dt_cmp od_ge (de_pv (pv 5)) (de_op od_mul (de_ix id_ix (de_pv (pv 0)) (de_pv (pv 4))) (de_pv (pv 3))) (nomark _)) (dss_one (ds_ret (de_getD hr.units (de_disp (dps_cons (de_str) (de_op od_sub (de_pv (pv 4)) (de_int)) (dps_cons (de_str) (de_op od_sub (de_pv (pv 4)) (de_op od_mod (de_callTy cd_int (by rfl) T.m_int (by decide +kernel) (da_cons (de_op od_add (de_pv (pv 4)) (de_int)) (da_nil))) (de_int))) (dps_nil))) (by decide +kernel) (by decide)) (de_pv (pv 1)) (de_pv (pv 4))))) (dss_nil)) (dss_cons (ds_set (i := 6) sc_L_code.nd rfl (Or.inl rfl) (de_op od_sub (de_callB cd_len (by rfl) T.m_len (by decide +kernel) (da_cons (de_lc (own := [("_law_value", 7)]) (di_list (de_pv (pv 0))) (cg_name (by decide)) (lcIf (fun _ _ _ _ _ => dt_cmp od_le (de_op od_mul (de_pv (pv 7)) (de_pv (pv 3))) (de_pv (pv 5)) (nomark _))) (fun _ _ _ _ _ => de_pv (pv 7)) (fun _ _ _ a b c => pe_lc (own := [("_law_value", 7)]) rfl sc_L_code.nd a (blkOk_by (N := N_L_code) (sc := defScope s_L_code) (by decide +kernel)) (fun _ _ _ _ _ => pg_name (i := 7) sc_L_code.nd rfl (Or.inl rfl)) b c)) (da_nil))) (de_int))) (dss_cons (ds_if (dt_cmp (od_eq hr.units) (de_op od_mul (de_ix id_ix (de_pv (pv 0)) (de_pv (pv 6))) (de_pv (pv 3))) (de_pv (pv 5)) (nomark _)) (dss_one (ds_ret (de_pv (pv 6)))) (dss_nil)) (dss_one (ds_ret (de_callH H_L_between hg (hr.mono (by decide)) (by rfl) (da_cons (de_pv (pv 1)) (da_cons (de_pv (pv 6)) (da_cons (de_op od_sub (de_op od_mul (de_int) (de_pv (pv 5))) (de_op od_mul (de_op od_add (de_ix id_ix (de_pv (pv 0)) (de_pv (pv 6))) (de_ix id_ix (de_pv (pv 0)) (de_op od_add (de_pv (pv 6)) (de_int)))) (de_pv (pv 3)))) (da_nil))))))))))
theorem h_L_code (T : Tx K mg) (H_L_between : Has P w K mg base 1 "_law_between" ["_law_way", "_law_code_here", "_law_side"] F_L_between) : Has P w K mg base 2 "_law_code" ["_law_values", "_law_way", "_law_num", "_law_den"] F_L_code :=
  okH T.f_L_code sc_L_code cnt_L_code (fun f cdv A out s H E hg hr => d_L_code T H_L_between hg hr) ok_L_code
theorem d_L_near_middle (T : Tx K mg) (H_L_draw : Has P w K mg base 1 "_law_draw" ["_law_deck_here", "_law_many"] F_L_draw) (H_L_power : Has P w K mg base 1 "_law_power" ["_law_base", "_law_number"] F_L_power) {f : Addr} {cdv : Value} {A : Around} {out : List Env} {s : Shared} {H : Hp} {E : XK} (hg : (bX P w K mg base N_L_near_middle "_law_near_middle" s_L_near_middle f cdv A out s H E).A.guards = some []) (hr : Room 1 (bX P w K mg base N_L_near_middle "_law_near_middle" s_L_near_middle f cdv A out s H E).A) :
    DSs (bX P w K mg base N_L_near_middle "_law_near_middle" s_L_near_middle f cdv A out s H E) (defBody s_L_near_middle) t_L_near_middle :=
  dss_cons (ds_set (i := 2) sc_L_near_middle.nd rfl (Or.inl rfl) (de_callH H_L_draw hg (hr.mono (by decide)) (by rfl) (da_cons (de_pv (pv 0)) (da_cons (de_op od_sub (de_callB cd_len (by rfl) T.m_len (by decide +kernel) (da_cons (de_pv (pv 1)) (da_nil))) (de_int)) (da_nil))))) (dss_cons (ds_set (i := 3) sc_L_near_middle.nd rfl (Or.inl rfl) (de_ix id_ix (de_lst (da_cons (de_int) (da_cons (de_int) (da_cons (de_callH H_L_draw hg (hr.mono (by decide)) (by rfl) (da_cons (de_pv (pv 0)) (da_cons (de_int) (da_nil)))) (da_nil))))) (de_callH H_L_draw hg (hr.mono (by decide)) (by rfl) (da_cons (de_pv (pv 0)) (da_cons (de_int) (da_nil)))))) (dss_cons (ds_set (i := 4) sc_L_near_middle.nd rfl (Or.inl rfl) (de_callH H_L_power hg (hr.mono (by decide)) (by rfl) (da_cons (de_int) (da_cons (de_pv (pv 3)) (da_nil))))) (dss_cons (ds_set (i := 5) sc_L_near_middle.nd rfl (Or.inl rfl) (de_op od_sub (de_op od_add (de_op od_mul (de_op od_mul (de_op od_add (de_ix id_ix (de_pv (pv 1)) (de_pv (pv 2))) (de_ix id_ix (de_pv (pv 1)) (de_op od_add (de_pv (pv 2)) (de_int)))) (de_op od_pow (de_int) (de_int))) (de_pv (pv 4))) (de_callH H_L_draw hg (hr.mono (by decide)) (by rfl) (da_cons (de_pv (pv 0)) (da_cons (de_int) (da_nil))))) (de_int))) (dss_one (ds_ret (de_lst (da_cons (de_op od_catS (de_op od_catS (de_callTy (cd_strB hr.hd T.nd) (by rfl) T.m_str (by decide +kernel) (da_cons (de_pv (pv 5)) (da_nil))) (de_str)) (de_callTy (cd_strB hr.hd T.nd) (by rfl) T.m_str (by decide +kernel) (da_cons (de_op od_add (de_int) (de_pv (pv 3))) (da_nil)))) (da_cons (de_lst (da_cons (de_pv (pv 5)) (da_cons (de_op od_mul (de_op od_pow (de_int) (de_int)) (de_pv (pv 4))) (da_nil)))) (da_nil)))))))))
theorem h_L_near_middle (T : Tx K mg) (H_L_draw : Has P w K mg base 1 "_law_draw" ["_law_deck_here", "_law_many"] F_L_draw) (H_L_power : Has P w K mg base 1 "_law_power" ["_law_base", "_law_number"] F_L_power) : Has P w K mg base 2 "_law_near_middle" ["_law_deck_here", "_law_values"] F_L_near_middle :=
  okH T.f_L_near_middle sc_L_near_middle cnt_L_near_middle (fun f cdv A out s H E hg hr => d_L_near_middle T H_L_draw H_L_power hg hr) ok_L_near_middle
theorem d_rough_position (T : Tx K mg) (H_exponent_at : Has P w K mg base 2 "exponent_at" ["form", "num", "den"] F_exponent_at) {f : Addr} {cdv : Value} {A : Around} {out : List Env} {s : Shared} {H : Hp} {E : XK} (hg : (bX P w K mg base N_rough_position "rough_position" s_rough_position f cdv A out s H E).A.guards = some []) (hr : Room 2 (bX P w K mg base N_rough_position "rough_position" s_rough_position f cdv A out s H E).A) :
    DSs (bX P w K mg base N_rough_position "rough_position" s_rough_position f cdv A out s H E) (defBody s_rough_position) t_rough_position :=
  dss_cons (ds_asg (de_pv (pv 0)) (dg_seq rfl (dgs_cons (dg_name (pg_name (i := 3) sc_rough_position.nd rfl (Or.inl rfl))) (dgs_cons (dg_name (pg_name (i := 4) sc_rough_position.nd rfl (Or.inl rfl))) (dgs_cons (dg_name (pg_name (i := 5) sc_rough_position.nd rfl (Or.inl rfl))) (dgs_nil)))))) (dss_cons (ds_set (i := 6) sc_rough_position.nd rfl (Or.inl rfl) (de_callH H_exponent_at hg (hr.mono (by decide)) (by rfl) (da_cons (de_pv (pv 0)) (da_cons (de_pv (pv 1)) (da_cons (de_pv (pv 2)) (da_nil)))))) (dss_cons (ds_if (dt_cmp od_ge (de_pv (pv 6)) (de_int) (nomark _)) (dss_one (ds_set (i := 2) sc_rough_position.nd rfl (Or.inl rfl) (de_op od_shl (de_pv (pv 2)) (de_pv (pv 6))))) (dss_one (ds_set (i := 1) sc_rough_position.nd rfl (Or.inl rfl) (de_op od_shl (de_pv (pv 1)) (de_un ud_neg (de_pv (pv 6))))))) (dss_one (ds_ret (de_tup (da_cons (de_op od_add (de_pv (pv 1)) (de_op od_mul (de_op od_shl (de_op od_sub (de_pv (pv 6)) (de_pv (pv 4))) (de_op od_sub (de_pv (pv 3)) (de_int))) (de_pv (pv 2)))) (da_cons (de_pv (pv 2)) (da_nil))))))))
theorem h_rough_position (T : Tx K mg) (H_exponent_at : Has P w K mg base 2 "exponent_at" ["form", "num", "den"] F_exponent_at) : Has P w K mg base 3 "rough_position" ["form", "num", "den"] F_rough_position :=
  okH T.f_rough_position sc_rough_position cnt_rough_position (fun f cdv A out s H E hg hr => d_rough_position T H_exponent_at hg hr) ok_rough_position
theorem d_hex_parts (T : Tx K mg) (H_exponent_at_end : HasX P w K mg base 2 "exponent_at_end" ["text", "at", "most"] F_exponent_at_end) (H_mantissa_at : HasX P w K mg base 1 "mantissa_at" ["text", "at", "digits", "most"] F_mantissa_at) {f : Addr} {cdv : Value} {A : Around} {out : List Env} {s : Shared} {H : Hp} {E : XK} (hg : (bX P w K mg base N_hex_parts "hex_parts" s_hex_parts f cdv A out s H E).A.guards = some []) (hr : Room 2 (bX P w K mg base N_hex_parts "hex_parts" s_hex_parts f cdv A out s H E).A) :
    DSs (bX P w K mg base N_hex_parts "hex_parts" s_hex_parts f cdv A out s H E) (defBody s_hex_parts) t_hex_parts :=
  dss_cons (ds_asg (de_callH (Has.ofX H_mantissa_at) hg (hr.mono (by decide)) (by rfl) (da_cons (de_pv (pv 0)) (da_cons (de_pv (pv 1)) (da_cons (de_c (pe_glob (v := .str (PySem.Str.ofString "0123456789abcdef")) rfl T.s_HEX_DIGITS.choose_spec ⟨_, rfl⟩) (fun _ _ _ _ => rfl)) (da_cons (de_c (pe_glob (v := .int 300) rfl T.c_MAX_HEX_DIGITS.choose_spec ⟨_, rfl⟩) (fun _ _ _ _ => rfl)) (da_nil)))))) (dg_seq rfl (dgs_cons (dg_name (pg_name (i := 2) sc_hex_parts.nd rfl (Or.inl rfl))) (dgs_cons (dg_name (pg_name (i := 3) sc_hex_parts.nd rfl (Or.inl rfl))) (dgs_cons (dg_name (pg_name (i := 1) sc_hex_parts.nd rfl (Or.inl rfl))) (dgs_nil)))))) (dss_cons (ds_if (dt_cmp (od_ne hr.units) (de_sliceS (de_pv (pv 0)) (do_some (de_pv (pv 1))) (do_some (de_op od_add (de_pv (pv 1)) (de_int)))) (de_str) (nomark _)) (dss_one (ds_never)) (dss_nil)) (dss_one (ds_ret (de_tup (da_cons (de_pv (pv 2)) (da_cons (de_op od_sub (de_callH (Has.ofX H_exponent_at_end) hg (hr.mono (by decide)) (by rfl) (da_cons (de_pv (pv 0)) (da_cons (de_op od_add (de_pv (pv 1)) (de_int)) (da_cons (de_c (pe_glob (v := .int 1400) rfl T.c_MAX_HEX_EXP.choose_spec ⟨_, rfl⟩) (fun _ _ _ _ => rfl)) (da_nil))))) (de_op od_mul (de_int) (de_pv (pv 3)))) (da_nil)))))))
theorem h_hex_parts (T : Tx K mg) (H_exponent_at_end : HasX P w K mg base 2 "exponent_at_end" ["text", "at", "most"] F_exponent_at_end) (H_mantissa_at : HasX P w K mg base 1 "mantissa_at" ["text", "at", "digits", "most"] F_mantissa_at) : Has P w K mg base 3 "hex_parts" ["text", "at"] F_hex_parts :=
  okH T.f_hex_parts sc_hex_parts cnt_hex_parts (fun f cdv A out s H E hg hr => d_hex_parts T H_exponent_at_end H_mantissa_at hg hr) ok_hex_parts
theorem d_decimal_parts (T : Tx K mg) (H_exponent_at_end : HasX P w K mg base 2 "exponent_at_end" ["text", "at", "most"] F_exponent_at_end) (H_mantissa_at : HasX P w K mg base 1 "mantissa_at" ["text", "at", "digits", "most"] F_mantissa_at) {f : Addr} {cdv : Value} {A : Around} {out : List Env} {s : Shared} {H : Hp} {E : XK} (hg : (bXx P w K mg base N_decimal_parts "decimal_parts" s_decimal_parts f cdv A out s H E).A.guards = some []) (hr : Room 2 (bXx P w K mg base N_decimal_parts "decimal_parts" s_decimal_parts f cdv A out s H E).A) :
    DSXs (bXx P w K mg base N_decimal_parts "decimal_parts" s_decimal_parts f cdv A out s H E) (defBody s_decimal_parts) t_decimal_parts :=
  dsxs_cons (dsx_asg (dex_call H_mantissa_at hg (hr.mono (by decide)) (by rfl) (dax_of (da_cons (de_pv (pv 0)) (da_cons (de_pv (pv 1)) (da_cons (de_c (pe_glob (v := .str (PySem.Str.ofString "0123456789")) rfl T.s_DIGITS.choose_spec ⟨_, rfl⟩) (fun _ _ _ _ => rfl)) (da_cons (de_c (pe_glob (v := .int 1300) rfl T.c_MAX_DIGITS.choose_spec ⟨_, rfl⟩) (fun _ _ _ _ => rfl)) (da_nil))))))) (dg_seq rfl (dgs_cons (dg_name (pg_name (i := 2) sc_decimal_parts.nd rfl (Or.inl rfl))) (dgs_cons (dg_name (pg_name (i := 3) sc_decimal_parts.nd rfl (Or.inl rfl))) (dgs_cons (dg_name (pg_name (i := 1) sc_decimal_parts.nd rfl (Or.inl rfl))) (dgs_nil)))))) (dsxs_cons (dsx_of (ds_if (dt_cmp (od_eq hr.units) (de_pv (pv 1)) (de_callB cd_lenS (by rfl) T.m_len (by decide +kernel) (da_cons (de_pv (pv 0)) (da_nil))) (nomark _)) (dss_one (ds_ret (de_tup (da_cons (de_pv (pv 2)) (da_cons (de_un ud_neg (de_pv (pv 3))) (da_nil)))))) (dss_nil))) (dsxs_cons (dsx_if (dt_cmp (od_ne hr.units) (de_ixS (de_pv (pv 0)) (de_pv (pv 1))) (de_str) (nomark _)) (dsxs_one (dsx_raiseT T.x_BadText rfl hr (da_cons (de_pv (pv 1)) (da_nil)))) (dsxs_of (dss_nil))) (dsxs_one (dsx_ret (dex_tup (dax_cons (dex_of (de_pv (pv 2))) (dax_cons (dex_op od_sub (dex_call H_exponent_at_end hg (hr.mono (by decide)) (by rfl) (dax_of (da_cons (de_pv (pv 0)) (da_cons (de_op od_add (de_pv (pv 1)) (de_int)) (da_cons (de_c (pe_glob (v := .int 1200) rfl T.c_MAX_EXP.choose_spec ⟨_, rfl⟩) (fun _ _ _ _ => rfl)) (da_nil)))))) (de_pv (pv 3))) (dax_of (da_nil)))))))))
theorem h_decimal_parts (T : Tx K mg) (H_exponent_at_end : HasX P w K mg base 2 "exponent_at_end" ["text", "at", "most"] F_exponent_at_end) (H_mantissa_at : HasX P w K mg base 1 "mantissa_at" ["text", "at", "digits", "most"] F_mantissa_at) : HasX P w K mg base 3 "decimal_parts" ["text", "at"] F_decimal_parts :=
  okHX T.f_decimal_parts sc_decimal_parts cnt_decimal_parts (fun f cdv A out s H E hg hr => d_decimal_parts T H_exponent_at_end H_mantissa_at hg hr) ok_decimal_parts
theorem d_L_text (T : Tx K mg) (H_L_draw : Has P w K mg base 1 "_law_draw" ["_law_deck_here", "_law_many"] F_L_draw) (H_L_near_middle : Has P w K mg base 2 "_law_near_middle" ["_law_deck_here", "_law_values"] F_L_near_middle) (H_L_power : Has P w K mg base 1 "_law_power" ["_law_base", "_law_number"] F_L_power) {f : Addr} {cdv : Value} {A : Around} {out : List Env} {s : Shared} {H : Hp} {E : XK} (hg : (bX P w K mg base N_L_text "_law_text" s_L_text f cdv A out s H E).A.guards = some []) (hr : Room 2 (bX P w K mg base N_L_text "_law_text" s_L_text f cdv A out s H E).A) :
    DSs (bX P w K mg base N_L_text "_law_text" s_L_text f cdv A out s H E) (defBody s_L_text) t_L_text :=
  dss_cons (ds_par (i := 2) (j := 3) (da_cons (de_callH H_L_draw hg (hr.mono (by decide)) (by rfl) (da_cons (de_pv (pv 0)) (da_cons (de_int) (da_nil)))) (da_cons (de_callH H_L_draw hg (hr.mono (by decide)) (by rfl) (da_cons (de_pv (pv 0)) (da_cons (de_ix id_ix (de_lst (da_cons (de_int) (da_cons (de_int) (da_cons (de_op od_pow (de_int) (de_int)) (da_nil))))) (de_callH H_L_draw hg (hr.mono (by decide)) (by rfl) (da_cons (de_pv (pv 0)) (da_cons (de_int) (da_nil))))) (da_nil)))) (da_nil))) (fun _ p => ps_par (by rfl) sc_L_text.nd rfl rfl (by decide) rfl rfl p (by rfl))) (dss_cons (ds_if (dt_cmp (od_eq hr.units) (de_pv (pv 2)) (de_int) (nomark _)) (dss_one (ds_ret (de_callH H_L_near_middle hg (hr.mono (by decide)) (by rfl) (da_cons (de_pv (pv 0)) (da_cons (de_pv (pv 1)) (da_nil)))))) (dss_nil)) (dss_cons (ds_if (dt_cmp (od_eq hr.units) (de_pv (pv 2)) (de_int) (nomark _)) (dss_cons (ds_set (i := 4) sc_L_text.nd rfl (Or.inl rfl) (de_op od_sub (de_callH H_L_draw hg (hr.mono (by decide)) (by rfl) (da_cons (de_pv (pv 0)) (da_cons (de_int) (da_nil)))) (de_int))) (dss_cons (ds_par3 (i := 5) (j := 6) (l := 7) (da_cons (de_str) (da_cons (de_pv (pv 3)) (da_cons (de_str) (da_nil)))) (fun _ p => ps_par3 (by rfl) sc_L_text.nd rfl rfl rfl (by decide) (by decide) (by decide) rfl rfl rfl p (by rfl))) (dss_cons (ds_for (di_range1 (by rfl) T.m_range (da_cons (de_int) (da_nil)) (fun _ p => pi_range1 (by rfl) T.m_range p)) (dg_name (pg_name (i := 8) sc_L_text.nd rfl (Or.inl rfl))) (dss_one (ds_par (i := 7) (j := 6) (da_cons (de_op od_catS (de_ixS (de_pv (pv 5)) (de_op od_mod (de_callTy cd_int (by rfl) T.m_int (by decide +kernel) (da_cons (de_pv (pv 6)) (da_nil))) (de_int))) (de_pv (pv 7))) (da_cons (de_op od_fdiv (de_pv (pv 6)) (de_int)) (da_nil))) (fun _ p => ps_par (by rfl) sc_L_text.nd rfl rfl (by decide) rfl rfl p (by rfl))))) (dss_cons (ds_set (i := 7) sc_L_text.nd rfl (Or.inl rfl) (de_op od_catS (de_op od_catS (de_op od_catS (de_op od_catS (de_op od_catS (de_str) (de_sliceS (de_pv (pv 7)) (do_none) (do_some (de_int)))) (de_str)) (de_sliceS (de_pv (pv 7)) (do_some (de_int)) (do_none))) (de_str)) (de_callTy (cd_strB hr.hd T.nd) (by rfl) T.m_str (by decide +kernel) (da_cons (de_op od_add (de_pv (pv 4)) (de_int)) (da_nil))))) (dss_one (ds_ret (de_lst (da_cons (de_pv (pv 7)) (da_cons (de_lst (da_cons (de_op od_shl (de_pv (pv 3)) (de_callB (cd_max2 rfl) (by rfl) T.m_max (by decide +kernel) (da_cons (de_int) (da_cons (de_pv (pv 4)) (da_nil))))) (da_cons (de_op od_shl (de_int) (de_callB (cd_max2 rfl) (by rfl) T.m_max (by decide +kernel) (da_cons (de_int) (da_cons (de_op od_sub (de_int) (de_pv (pv 4))) (da_nil))))) (da_nil)))) (da_nil)))))))))) (dss_nil)) (dss_cons (ds_set (i := 4) sc_L_text.nd rfl (Or.inl rfl) (de_op od_sub (de_callH H_L_draw hg (hr.mono (by decide)) (by rfl) (da_cons (de_pv (pv 0)) (da_cons (de_int) (da_nil)))) (de_int))) (dss_one (ds_ret (de_lst (da_cons (de_op od_catS (de_op od_catS (de_callTy (cd_strB hr.hd T.nd) (by rfl) T.m_str (by decide +kernel) (da_cons (de_pv (pv 3)) (da_nil))) (de_str)) (de_callTy (cd_strB hr.hd T.nd) (by rfl) T.m_str (by decide +kernel) (da_cons (de_pv (pv 4)) (da_nil)))) (da_cons (de_lst (da_cons (de_op od_mul (de_pv (pv 3)) (de_callH H_L_power hg (hr.mono (by decide)) (by rfl) (da_cons (de_int) (da_cons (de_callB (cd_max2 rfl) (by rfl) T.m_max (by decide +kernel) (da_cons (de_int) (da_cons (de_pv (pv 4)) (da_nil)))) (da_nil))))) (da_cons (de_callH H_L_power hg (hr.mono (by decide)) (by rfl) (da_cons (de_int) (da_cons (de_callB (cd_max2 rfl) (by rfl) T.m_max (by decide +kernel) (da_cons (de_int) (da_cons (de_op od_sub (de_int) (de_pv (pv 4))) (da_nil)))) (da_nil)))) (da_nil)))) (da_nil)))))))))
theorem h_L_text (T : Tx K mg) (H_L_draw : Has P w K mg base 1 "_law_draw" ["_law_deck_here", "_law_many"] F_L_draw) (H_L_near_middle : Has P w K mg base 2 "_law_near_middle" ["_law_deck_here", "_law_values"] F_L_near_middle) (H_L_power : Has P w K mg base 1 "_law_power" ["_law_base", "_law_number"] F_L_power) : Has P w K mg base 3 "_law_text" ["_law_deck_here", "_law_values"] F_L_text :=
  okH T.f_L_text sc_L_text cnt_L_text (fun f cdv A out s H E hg hr => d_L_text T H_L_draw H_L_near_middle H_L_power hg hr) ok_L_text
theorem d_read_fraction (T : Tx K mg) (H_greatest_read : Has P w K mg base 2 "greatest_read" ["form", "way"] F_greatest_read) (H_rough_position : Has P w K mg base 3 "rough_position" ["form", "num", "den"] F_rough_position) (H_rounded_by : Has P w K mg base 1 "rounded_by" ["way", "n", "d"] F_rounded_by) {f : Addr} {cdv : Value} {A : Around} {out : List Env} {s : Shared} {H : Hp} {E : XK} (hg : (bX P w K mg base N_read_fraction "read_fraction" s_read_fraction f cdv A out s H E).A.guards = some []) (hr : Room 3 (bX P w K mg base N_read_fraction "read_fraction" s_read_fraction f cdv A out s H E).A) :
    DSs (bX P w K mg base N_read_fraction "read_fraction" s_read_fraction f cdv A out s H E) (defBody s_read_fraction) t_read_fraction :=
  dss_cons (ds_asg (de_callH H_rough_position hg (hr.mono (by decide)) (by rfl) (da_cons (de_pv (pv 0)) (da_cons (de_pv (pv 2)) (da_cons (de_pv (pv 3)) (da_nil))))) (dg_seq rfl (dgs_cons (dg_name (pg_name (i := 4) sc_read_fraction.nd rfl (Or.inl rfl))) (dgs_cons (dg_name (pg_name (i := 5) sc_read_fraction.nd rfl (Or.inl rfl))) (dgs_nil))))) (dss_one (ds_ret (de_callB (cd_min2 rfl) (by rfl) T.m_min (by decide +kernel) (da_cons (de_callH H_rounded_by hg (hr.mono (by decide)) (by rfl) (da_cons (de_pv (pv 1)) (da_cons (de_pv (pv 4)) (da_cons (de_pv (pv 5)) (da_nil))))) (da_cons (de_callH H_greatest_read hg (hr.mono (by decide)) (by rfl) (da_cons (de_pv (pv 0)) (da_cons (de_pv (pv 1)) (da_nil)))) (da_nil))))))
theorem h_read_fraction (T : Tx K mg) (H_greatest_read : Has P w K mg base 2 "greatest_read" ["form", "way"] F_greatest_read) (H_rough_position : Has P w K mg base 3 "rough_position" ["form", "num", "den"] F_rough_position) (H_rounded_by : Has P w K mg base 1 "rounded_by" ["way", "n", "d"] F_rounded_by) : Has P w K mg base 4 "read_fraction" ["form", "way", "num", "den"] F_read_fraction :=
  okH T.f_read_fraction sc_read_fraction cnt_read_fraction (fun f cdv A out s H E hg hr => d_read_fraction T H_greatest_read H_rough_position H_rounded_by hg hr) ok_read_fraction
theorem d_parse_text (T : Tx K mg) (H_check_infinite : Has P w K mg base 1 "check_infinite" ["text", "at"] F_check_infinite) (H_decimal_parts : HasX P w K mg base 3 "decimal_parts" ["text", "at"] F_decimal_parts) (H_hex_parts : Has P w K mg base 3 "hex_parts" ["text", "at"] F_hex_parts) (H_sign_at : Has P w K mg base 1 "sign_at" ["text", "at"] F_sign_at) {f : Addr} {cdv : Value} {A : Around} {out : List Env} {s : Shared} {H : Hp} {E : XK} (hg : (bXx P w K mg base N_parse_text "parse_text" s_parse_text f cdv A out s H E).A.guards = some []) (hr : Room 3 (bXx P w K mg base N_parse_text "parse_text" s_parse_text f cdv A out s H E).A) :
    DSXs (bXx P w K mg base N_parse_text "parse_text" s_parse_text f cdv A out s H E) (defBody s_parse_text) t_parse_text :=
  dsxs_cons (dsx_if (dt_not (dt_val (de_callB cd_isi (by rfl) T.m_isinstance (by decide +kernel) (da_cons (de_pv (pv 0)) (da_cons (de_tyName (by rfl) T.m_str (by decide +kernel)) (da_nil)))))) (dsxs_one (dsx_raiseT T.x_BadText rfl hr (da_cons (de_non) (da_nil)))) (dsxs_of (dss_nil))) (dsxs_cons (dsx_of (ds_asg (de_callH H_sign_at hg (hr.mono (by decide)) (by rfl) (da_cons (de_pv (pv 0)) (da_cons (de_int) (da_nil)))) (dg_seq rfl (dgs_cons (dg_name (pg_name (i := 1) sc_parse_text.nd rfl (Or.inl rfl))) (dgs_cons (dg_name (pg_name (i := 2) sc_parse_text.nd rfl (Or.inl rfl))) (dgs_nil)))))) (dsxs_cons (dsx_of (ds_if (dt_cmp (od_eq hr.units) (de_sliceS (de_pv (pv 0)) (do_some (de_pv (pv 2))) (do_some (de_op od_add (de_pv (pv 2)) (de_int)))) (de_str) (nomark _)) (dss_cons (ds_expr (de_callH H_check_infinite hg (hr.mono (by decide)) (by rfl) (da_cons (de_pv (pv 0)) (da_cons (de_pv (pv 2)) (da_nil))))) (dss_one (ds_ret (de_tup (da_cons (de_pv (pv 1)) (da_cons (de_str) (da_nil))))))) (dss_nil))) (dsxs_cons (dsx_of (ds_if (dt_cmp (od_eq hr.units) (de_sliceS (de_pv (pv 0)) (do_some (de_pv (pv 2))) (do_some (de_op od_add (de_pv (pv 2)) (de_int)))) (de_str) (nomark _)) (dss_cons (ds_asg (de_callH H_hex_parts hg (hr.mono (by decide)) (by rfl) (da_cons (de_pv (pv 0)) (da_cons (de_op od_add (de_pv (pv 2)) (de_int)) (da_nil)))) (dg_seq rfl (dgs_cons (dg_name (pg_name (i := 3) sc_parse_text.nd rfl (Or.inl rfl))) (dgs_cons (dg_name (pg_name (i := 4) sc_parse_text.nd rfl (Or.inl rfl))) (dgs_nil))))) (dss_one (ds_ret (de_tup (da_cons (de_pv (pv 1)) (da_cons (de_int) (da_cons (de_pv (pv 3)) (da_cons (de_pv (pv 4)) (da_nil))))))))) (dss_nil))) (dsxs_cons (dsx_asg (dex_call H_decimal_parts hg (hr.mono (by decide)) (by rfl) (dax_of (da_cons (de_pv (pv 0)) (da_cons (de_pv (pv 2)) (da_nil))))) (dg_seq rfl (dgs_cons (dg_name (pg_name (i := 3) sc_parse_text.nd rfl (Or.inl rfl))) (dgs_cons (dg_name (pg_name (i := 5) sc_parse_text.nd rfl (Or.inl rfl))) (dgs_nil))))) (dsxs_of (dss_one (ds_ret (de_tup (da_cons (de_pv (pv 1)) (da_cons (de_int) (da_cons (de_pv (pv 3)) (da_cons (de_pv (pv 5)) (da_nil)))))))))))))
theorem h_parse_text (T : Tx K mg) (H_check_infinite : Has P w K mg base 1 "check_infinite" ["text", "at"] F_check_infinite) (H_decimal_parts : HasX P w K mg base 3 "decimal_parts" ["text", "at"] F_decimal_parts) (H_hex_parts : Has P w K mg base 3 "hex_parts" ["text", "at"] F_hex_parts) (H_sign_at : Has P w K mg base 1 "sign_at" ["text", "at"] F_sign_at) : HasX P w K mg base 4 "parse_text" ["value"] F_parse_text :=
  okHX T.f_parse_text sc_parse_text cnt_parse_text (fun f cdv A out s H E hg hr => d_parse_text T H_check_infinite H_decimal_parts H_hex_parts H_sign_at hg hr) ok_parse_text
theorem d_read (T : Tx K mg) (H_fraction_of : Has P w K mg base 2 "fraction_of" ["decimal"] F_fraction_of) (H_read_fraction : Has P w K mg base 4 "read_fraction" ["form", "way", "num", "den"] F_read_fraction) {f : Addr} {cdv : Value} {A : Around} {out : List Env} {s : Shared} {H : Hp} {E : XK} (hg : (bX P w K mg base N_read "read" s_read f cdv A out s H E).A.guards = some []) (hr : Room 4 (bX P w K mg base N_read "read" s_read f cdv A out s H E).A) :
    DSs (bX P w K mg base N_read "read" s_read f cdv A out s H E) (defBody s_read) t_read :=
  dss_cons (ds_asg (de_callH H_fraction_of hg (hr.mono (by decide)) (by rfl) (da_cons (de_pv (pv 2)) (da_nil))) (dg_seq rfl (dgs_cons (dg_name (pg_name (i := 3) sc_read.nd rfl (Or.inl rfl))) (dgs_cons (dg_name (pg_name (i := 4) sc_read.nd rfl (Or.inl rfl))) (dgs_nil))))) (dss_one (ds_ret (de_callH H_read_fraction hg (hr.mono (by decide)) (by rfl) (da_cons (de_pv (pv 0)) (da_cons (de_pv (pv 1)) (da_cons (de_pv (pv 3)) (da_cons (de_pv (pv 4)) (da_nil))))))))
theorem h_read (T : Tx K mg) (H_fraction_of : Has P w K mg base 2 "fraction_of" ["decimal"] F_fraction_of) (H_read_fraction : Has P w K mg base 4 "read_fraction" ["form", "way", "num", "den"] F_read_fraction) : Has P w K mg base 5 "read" ["form", "way", "decimal"] F_read :=
  okH T.f_read sc_read cnt_read (fun f cdv A out s H E hg hr => d_read T H_fraction_of H_read_fraction hg hr) ok_read
theorem d_read_text (T : Tx K mg) (H_count_of : Has P w K mg base 1 "count_of" ["form"] F_count_of) (H_parse_text : HasX P w K mg base 4 "parse_text" ["value"] F_parse_text) (H_read : Has P w K mg base 5 "read" ["form", "way", "decimal"] F_read) (H_read_fraction : Has P w K mg base 4 "read_fraction" ["form", "way", "num", "den"] F_read_fraction) (H_shifted : Has P w K mg base 1 "shifted" ["n", "shift"] F_shifted) {f : Addr} {cdv : Value} {A : Around} {out : List Env} {s : Shared} {H : Hp} {E : XK} (hg : (bXx P w K mg base N_read_text "read_text" s_read_text f cdv A out s H E).A.guards = some []) (hr : Room 5 (bXx P w K mg base N_read_text "read_text" s_read_text f cdv A out s H E).A) :
    DSXs (bXx P w K mg base N_read_text "read_text" s_read_text f cdv A out s H E) (defBody s_read_text) t_read_text :=
  dsxs_cons (dsx_asg (dex_call H_parse_text hg (hr.mono (by decide)) (by rfl) (dax_of (da_cons (de_pv (pv 2)) (da_nil)))) (dg_star rfl (dg_name (pg_name (i := 3) sc_read_text.nd rfl (Or.inl rfl))) (dg_name (pg_name (i := 4) sc_read_text.nd rfl (Or.inl rfl))))) (dsxs_of (dss_cons (ds_if (dt_cmp (od_eq hr.units) (de_ix id_ix (de_pv (pv 4)) (de_int)) (de_str) (nomark _)) (dss_one (ds_ret (de_tup (da_cons (de_pv (pv 3)) (da_cons (de_callH H_count_of hg (hr.mono (by decide)) (by rfl) (da_cons (de_pv (pv 0)) (da_nil))) (da_nil)))))) (dss_nil)) (dss_cons (ds_asg (de_pv (pv 4)) (dg_seq rfl (dgs_cons (dg_name (pg_name (i := 5) sc_read_text.nd rfl (Or.inl rfl))) (dgs_cons (dg_name (pg_name (i := 6) sc_read_text.nd rfl (Or.inl rfl))) (dgs_cons (dg_name (pg_name (i := 7) sc_read_text.nd rfl (Or.inl rfl))) (dgs_nil)))))) (dss_cons (ds_if (dt_cmp (od_eq hr.units) (de_pv (pv 5)) (de_int) (nomark _)) (dss_one (ds_ret (de_tup (da_cons (de_pv (pv 3)) (da_cons (de_callH H_read hg (hr.mono (by decide)) (by rfl) (da_cons (de_pv (pv 0)) (da_cons (de_pv (pv 1)) (da_cons (de_tup (da_cons (de_pv (pv 6)) (da_cons (de_pv (pv 7)) (da_nil)))) (da_nil))))) (da_nil)))))) (dss_nil)) (dss_cons (ds_asg (de_callH H_shifted hg (hr.mono (by decide)) (by rfl) (da_cons (de_pv (pv 6)) (da_cons (de_pv (pv 7)) (da_nil)))) (dg_seq rfl (dgs_cons (dg_name (pg_name (i := 8) sc_read_text.nd rfl (Or.inl rfl))) (dgs_cons (dg_name (pg_name (i := 9) sc_read_text.nd rfl (Or.inl rfl))) (dgs_nil))))) (dss_one (ds_ret (de_tup (da_cons (de_pv (pv 3)) (da_cons (de_callH H_read_fraction hg (hr.mono (by decide)) (by rfl) (da_cons (de_pv (pv 0)) (da_cons (de_pv (pv 1)) (da_cons (de_pv (pv 8)) (da_cons (de_pv (pv 9)) (da_nil)))))) (da_nil)))))))))))
theorem h_read_text (T : Tx K mg) (H_count_of : Has P w K mg base 1 "count_of" ["form"] F_count_of) (H_parse_text : HasX P w K mg base 4 "parse_text" ["value"] F_parse_text) (H_read : Has P w K mg base 5 "read" ["form", "way", "decimal"] F_read) (H_read_fraction : Has P w K mg base 4 "read_fraction" ["form", "way", "num", "den"] F_read_fraction) (H_shifted : Has P w K mg base 1 "shifted" ["n", "shift"] F_shifted) : HasX P w K mg base 6 "read_text" ["form", "way", "value"] F_read_text :=
  okHX T.f_read_text sc_read_text cnt_read_text (fun f cdv A out s H E hg hr => d_read_text T H_count_of H_parse_text H_read H_read_fraction H_shifted hg hr) ok_read_text
theorem d_L_fails (T : Tx K mg) (H_read_text : HasX P w K mg base 6 "read_text" ["form", "way", "value"] F_read_text) {f : Addr} {cdv : Value} {A : Around} {out : List Env} {s : Shared} {H : Hp} {E : XK} (hg : (bX P w K mg base N_L_fails "_law_fails" s_L_fails f cdv A out s H E).A.guards = some []) (hr : Room 6 (bX P w K mg base N_L_fails "_law_fails" s_L_fails f cdv A out s H E).A) :
    DSs (bX P w K mg base N_L_fails "_law_fails" s_L_fails f cdv A out s H E) (defBody s_L_fails) t_L_fails :=
  dss_one (ds_tryT (c := (.ref T.n_BadText.choose)) (i := 3) (tab := [((PySem.Str.ofString "BadText"), true)]) rfl rfl sc_L_fails.nd rfl rfl ⟨rfl, by decide, .inl T.n_BadText.choose_spec⟩ (List.forall_mem_cons.mpr ⟨T.e_BadText_BadText _ T.n_BadText.choose_spec, fun _ h => nomatch h⟩) (fun pn xe => dsxs_one (dsx_ret (dex_lst (dax_cons (dex_of (de_str)) (dax_cons (dex_call H_read_text hg (hr.mono (by decide)) (by rfl) (dax_of (da_cons (de_pv (pv 0)) (da_cons (de_pv (pv 1)) (da_cons (de_pv (pv 2)) (da_nil)))))) (dax_of (da_nil))))))) (fun a oe cls dd pn cn hz hf hcn => dss_one (ds_ret (de_xfT T.xf_BadText_place hz hf hcn (de_pv (pv 3))))))
theorem h_L_fails (T : Tx K mg) (H_read_text : HasX P w K mg base 6 "read_text" ["form", "way", "value"] F_read_text) : Has P w K mg base 7 "_law_fails" ["_law_form_here", "_law_way", "_law_value"] F_L_fails :=
  okH T.f_L_fails sc_L_fails cnt_L_fails (fun f cdv A out s H E hg hr => d_L_fails T H_read_text hg hr) ok_L_fails
theorem d_law (T : Tx K mg) (H_L_code : Has P w K mg base 2 "_law_code" ["_law_values", "_law_way", "_law_num", "_law_den"] F_L_code) (H_L_deck : Has P w K mg base 1 "_law_deck" ["_law_script"] F_L_deck) (H_L_draw : Has P w K mg base 1 "_law_draw" ["_law_deck_here", "_law_many"] F_L_draw) (H_L_fails : Has P w K mg base 7 "_law_fails" ["_law_form_here", "_law_way", "_law_value"] F_L_fails) (H_L_form : Has P w K mg base 2 "_law_form" ["_law_deck_here"] F_L_form) (H_L_numbers : Has P w K mg base 1 "_law_numbers" ["_law_form_here"] F_L_numbers) (H_L_text : Has P w K mg base 3 "_law_text" ["_law_deck_here", "_law_values"] F_L_text) (H_read_text : HasX P w K mg base 6 "read_text" ["form", "way", "value"] F_read_text) {f : Addr} {cdv : Value} {A : Around} {out : List Env} {s : Shared} {H : Hp} {E : XK} (hg : (bX P w K mg base N_law "law" s_law f cdv A out s H E).A.guards = some []) (hr : Room 7 (bX P w K mg base N_law "law" s_law f cdv A out s H E).A) :
    DSs (bX P w K mg base N_law "law" s_law f cdv A out s H E) (defBody s_law) t_law :=
  dss_deck (i := 1) (s := 0) H_L_deck hg (hr.mono (by decide)) (dss_cons (ds_for (di_range1 (by rfl) T.m_range (da_cons (de_int) (da_nil)) (fun _ p => pi_range1 (by rfl) T.m_range p)) (dg_name (pg_name (i := 2) sc_law.nd rfl (Or.inl rfl))) (dss_cons (ds_set (i := 3) sc_law.nd rfl (Or.inr rfl) (de_callH H_L_form hg (hr.mono (by decide)) (by rfl) (da_cons (de_pv (pv 1)) (da_nil)))) (dss_cons (ds_set (i := 4) sc_law.nd rfl (Or.inl rfl) (de_callH H_L_numbers hg (hr.mono (by decide)) (by rfl) (da_cons (de_pv (pv 3)) (da_nil)))) (dss_cons (ds_for (di_range1 (by rfl) T.m_range (da_cons (de_int) (da_nil)) (fun _ p => pi_range1 (by rfl) T.m_range p)) (dg_name (pg_name (i := 5) sc_law.nd rfl (Or.inl rfl))) (dss_cons (ds_asg (de_callH H_L_text hg (hr.mono (by decide)) (by rfl) (da_cons (de_pv (pv 1)) (da_cons (de_pv (pv 4)) (da_nil)))) (dg_seq rfl (dgs_cons (dg_name (pg_name (i := 6) sc_law.nd rfl (Or.inr rfl))) (dgs_cons (dg_name (pg_name (i := 7) sc_law.nd rfl (Or.inl rfl))) (dgs_nil))))) (dss_cons (ds_set (i := 8) sc_law.nd rfl (Or.inr rfl) (de_ix id_ix (de_lst (da_cons (de_str) (da_cons (de_str) (da_cons (de_str) (da_nil))))) (de_callH H_L_draw hg (hr.mono (by decide)) (by rfl) (da_cons (de_pv (pv 1)) (da_cons (de_int) (da_nil)))))) (dss_one (ds_for (di_list (de_lst (da_cons (de_str) (da_cons (de_str) (da_cons (de_str) (da_cons (de_str) (da_cons (de_str) (da_nil)))))))) (dg_name (pg_name (i := 9) sc_law.nd rfl (Or.inr rfl))) (dss_cons (ds_set (i := 10) sc_law.nd rfl (Or.inl rfl) (de_tup (da_cons (de_callTy cd_int (by rfl) T.m_int (by decide +kernel) (da_cons (de_cmp (od_eq hr.units) (de_pv (pv 8)) (de_str) (nomark _)) (da_nil))) (da_cons (de_callH H_L_code hg (hr.mono (by decide)) (by rfl) (da_cons (de_pv (pv 4)) (da_cons (de_pv (pv 9)) (da_cons (de_ix id_ix (de_pv (pv 7)) (de_int)) (da_cons (de_ix id_ix (de_pv (pv 7)) (de_int)) (da_nil)))))) (da_nil))))) (dss_cons (ds_if (dt_cmp (od_ne hr.units) (de_callB (cd_reprB hg hr.units T.sm T.nd) (by rfl) T.m_repr (by decide +kernel) (da_cons (de_lc (own := [("_law_again", 13)]) (di_range1 (by rfl) T.m_range (da_cons (de_int) (da_nil)) (fun _ p => pi_range1 (by rfl) T.m_range p)) (cg_name (by decide)) lcYes (fun _ _ _ _ _ => de_callH (Has.ofX H_read_text) hg (hr.mono (by decide)) (by rfl) (da_cons (de_pv (pv 3)) (da_cons (de_pv (pv 9)) (da_cons (de_op od_catS (de_pv (pv 8)) (de_pv (pv 6))) (da_nil))))) (fun _ _ _ a b c => pe_lc (own := [("_law_again", 13)]) rfl sc_law.nd a (blkOk_by (N := N_law) (sc := defScope s_law) (by decide +kernel)) (fun _ _ _ _ _ => pg_name (i := 13) sc_law.nd rfl (Or.inl rfl)) b c)) (da_nil))) (de_callB (cd_reprB hg hr.units T.sm T.nd) (by rfl) T.m_repr (by decide +kernel) (da_cons (de_lst (da_cons (de_pv (pv 10)) (da_cons (de_pv (pv 10)) (da_nil)))) (da_nil))) (nomark _)) (dss_one (ds_ret (de_bl))) (dss_nil)) (dss_one (ds_if (dt_cmp (od_ne hr.units) (de_callB (cd_reprB hg hr.units T.sm T.nd) (by rfl) T.m_repr (by decide +kernel) (da_cons (de_callH (Has.ofX H_read_text) hg (hr.mono (by decide)) (by rfl) (da_cons (de_pv (pv 3)) (da_cons (de_pv (pv 9)) (da_cons (de_op od_catS (de_pv (pv 8)) (de_str)) (da_nil))))) (da_nil))) (de_callB (cd_reprB hg hr.units T.sm T.nd) (by rfl) T.m_repr (by decide +kernel) (da_cons (de_tup (da_cons (de_ix id_ix (de_pv (pv 10)) (de_int)) (da_cons (de_op od_sub (de_callB cd_len (by rfl) T.m_len (by decide +kernel) (da_cons (de_pv (pv 4)) (da_nil))) (de_int)) (da_nil)))) (da_nil))) (nomark _)) (dss_one (ds_ret (de_bl))) (dss_nil)))))))))) (dss_one (ds_for (di_list (de_lst (da_cons (de_lst (da_cons (de_str) (da_cons (de_int) (da_nil)))) (da_cons (de_lst (da_cons (de_str) (da_cons (de_int) (da_nil)))) (da_cons (de_lst (da_cons (de_non) (da_cons (de_non) (da_nil)))) (da_cons (de_lst (da_cons (de_int) (da_cons (de_non) (da_nil)))) (da_cons (de_lst (da_cons (de_str) (da_cons (de_int) (da_nil)))) (da_cons (de_lst (da_cons (de_str) (da_cons (de_int) (da_nil)))) (da_nil))))))))) (dg_seq rfl (dgs_cons (dg_name (pg_name (i := 11) sc_law.nd rfl (Or.inl rfl))) (dgs_cons (dg_name (pg_name (i := 12) sc_law.nd rfl (Or.inl rfl))) (dgs_nil)))) (dss_one (ds_if (dt_cmp (od_ne hr.units) (de_callH H_L_fails hg (hr.mono (by decide)) (by rfl) (da_cons (de_pv (pv 3)) (da_cons (de_str) (da_cons (de_pv (pv 11)) (da_nil))))) (de_pv (pv 12)) (nomark _)) (dss_one (ds_ret (de_bl))) (dss_nil))))))))) (dss_one (ds_ret (de_cmp (od_eq hr.units) (de_lc (own := [("_law_way", 9)]) (di_tup (de_tup (da_cons (de_str) (da_cons (de_str) (da_cons (de_str) (da_nil)))))) (cg_name (by decide)) lcYes (fun _ _ _ _ _ => de_callH (Has.ofX H_read_text) hg (hr.mono (by decide)) (by rfl) (da_cons (de_tup (da_cons (de_int) (da_cons (de_un ud_neg (de_int)) (da_cons (de_int) (da_nil))))) (da_cons (de_pv (pv 9)) (da_cons (de_str) (da_nil))))) (fun _ _ _ a b c => pe_lc (own := [("_law_way", 9)]) rfl sc_law.nd a (blkOk_by (N := N_law) (sc := defScope s_law) (by decide +kernel)) (fun _ _ _ _ _ => pg_name (i := 9) sc_law.nd rfl (Or.inl rfl)) b c)) (de_lst (da_cons (de_tup (da_cons (de_int) (da_cons (de_int) (da_nil)))) (da_cons (de_tup (da_cons (de_int) (da_cons (de_int) (da_nil)))) (da_cons (de_tup (da_cons (de_int) (da_cons (de_int) (da_nil)))) (da_nil))))) (nomark _))))) (fun _ p => ps_set (i := 1) sc_law.nd rfl (Or.inl rfl) p) (fun f fd gm kp b F => pe_callG F hg (hr.mono (by decide)) (by rfl) gm kp b (pa_cons (pv 0) pa_nil))
theorem h_law (T : Tx K mg) (H_L_code : Has P w K mg base 2 "_law_code" ["_law_values", "_law_way", "_law_num", "_law_den"] F_L_code) (H_L_deck : Has P w K mg base 1 "_law_deck" ["_law_script"] F_L_deck) (H_L_draw : Has P w K mg base 1 "_law_draw" ["_law_deck_here", "_law_many"] F_L_draw) (H_L_fails : Has P w K mg base 7 "_law_fails" ["_law_form_here", "_law_way", "_law_value"] F_L_fails) (H_L_form : Has P w K mg base 2 "_law_form" ["_law_deck_here"] F_L_form) (H_L_numbers : Has P w K mg base 1 "_law_numbers" ["_law_form_here"] F_L_numbers) (H_L_text : Has P w K mg base 3 "_law_text" ["_law_deck_here", "_law_values"] F_L_text) (H_read_text : HasX P w K mg base 6 "read_text" ["form", "way", "value"] F_read_text) : Has P w K mg base 8 "law" ["_law_script"] F_law :=
  okH T.f_law sc_law cnt_law (fun f cdv A out s H E hg hr => d_law T H_L_code H_L_deck H_L_draw H_L_fails H_L_form H_L_numbers H_L_text H_read_text hg hr) ok_law
theorem all_law (T : Tx K mg) : Has P w K mg base 8 "law" ["_law_script"] F_law :=
  have H_count_of := h_count_of (P := P) (w := w) (base := base) T 
  have H_raised := h_raised (P := P) (w := w) (base := base) T 
  have H_shifted := h_shifted (P := P) (w := w) (base := base) T 
  have H_log_of := h_log_of (P := P) (w := w) (base := base) T 
  have H_rounded_by := h_rounded_by (P := P) (w := w) (base := base) T 
  have H_sign_at := h_sign_at (P := P) (w := w) (base := base) T 
  have H_mantissa_at := h_mantissa_at (P := P) (w := w) (base := base) T 
  have H_check_infinite := h_check_infinite (P := P) (w := w) (base := base) T 
  have H_L_deck := h_L_deck (P := P) (w := w) (base := base) T 
  have H_L_draw := h_L_draw (P := P) (w := w) (base := base) T 
  have H_L_power := h_L_power (P := P) (w := w) (base := base) T 
  have H_L_numbers := h_L_numbers (P := P) (w := w) (base := base) T 
  have H_L_between := h_L_between (P := P) (w := w) (base := base) T 
  have H_fraction_of := h_fraction_of (P := P) (w := w) (base := base) T H_raised
  have H_exponent_at := h_exponent_at (P := P) (w := w) (base := base) T H_log_of
  have H_greatest_read := h_greatest_read (P := P) (w := w) (base := base) T H_count_of
  have H_exponent_at_end := h_exponent_at_end (P := P) (w := w) (base := base) T H_sign_at
  have H_L_form := h_L_form (P := P) (w := w) (base := base) T H_L_draw
  have H_L_code := h_L_code (P := P) (w := w) (base := base) T H_L_between
  have H_L_near_middle := h_L_near_middle (P := P) (w := w) (base := base) T H_L_draw H_L_power
  have H_rough_position := h_rough_position (P := P) (w := w) (base := base) T H_exponent_at
  have H_hex_parts := h_hex_parts (P := P) (w := w) (base := base) T H_exponent_at_end H_mantissa_at
  have H_decimal_parts := h_decimal_parts (P := P) (w := w) (base := base) T H_exponent_at_end H_mantissa_at
  have H_L_text := h_L_text (P := P) (w := w) (base := base) T H_L_draw H_L_near_middle H_L_power
  have H_read_fraction := h_read_fraction (P := P) (w := w) (base := base) T H_greatest_read H_rough_position H_rounded_by
  have H_parse_text := h_parse_text (P := P) (w := w) (base := base) T H_check_infinite H_decimal_parts H_hex_parts H_sign_at
  have H_read := h_read (P := P) (w := w) (base := base) T H_fraction_of H_read_fraction
  have H_read_text := h_read_text (P := P) (w := w) (base := base) T H_count_of H_parse_text H_read H_read_fraction H_shifted
  have H_L_fails := h_L_fails (P := P) (w := w) (base := base) T H_read_text
  h_law T H_L_code H_L_deck H_L_draw H_L_fails H_L_form H_L_numbers H_L_text H_read_text
end
theorem tx_mk {K : PySem.W.Frag} {h : Heap} {mg : Str → Option Value} {f1 f2 f3 f4 f5 f6 f7 f8 f9 f10 f11 f12 f13 f14 f15 f16 f17 f18 f19 f20 f21 f22 f23 f24 f25 f26 f27 f28 f29 f30 : Addr} {od1 an1 od2 an2 od3 an3 od4 an4 od5 an5 od6 an6 od7 an7 od8 an8 od9 an9 od10 an10 od11 an11 od12 an12 od13 an13 od14 an14 od15 an15 od16 an16 od17 an17 od18 an18 od19 an19 od20 an20 od21 an21 od22 an22 od23 an23 od24 an24 od25 an25 od26 an26 od27 an27 od28 an28 od29 an29 od30 an30 : Option Addr} {sl1 sl2 sl3 sl4 sl5 sl6 sl7 sl8 sl9 sl10 sl11 sl12 sl13 sl14 sl15 sl16 sl17 sl18 sl19 sl20 sl21 sl22 sl23 sl24 sl25 sl26 sl27 sl28 sl29 sl30 : Array (Option Value)} {oc1 kV1 dc1 pm1 cd1 ct1 oc2 kV2 dc2 pm2 cd2 ct2 oc3 kV3 dc3 pm3 cd3 ct3 oc4 kV4 dc4 pm4 cd4 ct4 oc5 kV5 dc5 pm5 cd5 ct5 oc6 kV6 dc6 pm6 cd6 ct6 oc7 kV7 dc7 pm7 cd7 ct7 oc8 kV8 dc8 pm8 cd8 ct8 oc9 kV9 dc9 pm9 cd9 ct9 oc10 kV10 dc10 pm10 cd10 ct10 oc11 kV11 dc11 pm11 cd11 ct11 oc12 kV12 dc12 pm12 cd12 ct12 oc13 kV13 dc13 pm13 cd13 ct13 oc14 kV14 dc14 pm14 cd14 ct14 oc15 kV15 dc15 pm15 cd15 ct15 oc16 kV16 dc16 pm16 cd16 ct16 oc17 kV17 dc17 pm17 cd17 ct17 oc18 kV18 dc18 pm18 cd18 ct18 oc19 kV19 dc19 pm19 cd19 ct19 oc20 kV20 dc20 pm20 cd20 ct20 oc21 kV21 dc21 pm21 cd21 ct21 oc22 kV22 dc22 pm22 cd22 ct22 oc23 kV23 dc23 pm23 cd23 ct23 oc24 kV24 dc24 pm24 cd24 ct24 oc25 kV25 dc25 pm25 cd25 ct25 oc26 kV26 dc26 pm26 cd26 ct26 oc27 kV27 dc27 pm27 cd27 ct27 oc28 kV28 dc28 pm28 cd28 ct28 oc29 kV29 dc29 pm29 cd29 ct29 oc30 kV30 dc30 pm30 cd30 ct30 : Value} {C_BadText : Addr} {nm_BadText qn_BadText : Str} {N_BadText : Addr} {bs_BadText bm_BadText : List Value} {sn_BadText : List Str} {sub_BadText : List Value} {ab_BadText : Bool} {col_BadText : Option Bool} {dd_BadText od_BadText an_BadText : Option Addr} {m0_BadText m1_BadText m2_BadText m3_BadText m5_BadText : Option Value} {fI_BadText : Addr} {oc_BadText dc_BadText pm_BadText cd_BadText ct_BadText : Value} {sl_BadText : Array (Option Value)} (X : K.In h) (G : h.Ns mainGlobals mg)
    (a1 : PySem.W.nsIn K mainGlobals "count_of" = some (some (.ref f1))) (l1 : K.lookup f1 = some ⟨oc1, od1, .func (PySem.W.fnOf "count_of" "count_of" (defArgs s_count_of) (defBody s_count_of) (defScope s_count_of) .none kV1 dc1 pm1 an1 cd1 ct1), sl1⟩) (c1 : PySem.W.codeIn K cd1 "count_of" = true) (k1 : PySem.W.keepIn K (.ref f1) = true)
    (a2 : PySem.W.nsIn K mainGlobals "raised" = some (some (.ref f2))) (l2 : K.lookup f2 = some ⟨oc2, od2, .func (PySem.W.fnOf "raised" "raised" (defArgs s_raised) (defBody s_raised) (defScope s_raised) .none kV2 dc2 pm2 an2 cd2 ct2), sl2⟩) (c2 : PySem.W.codeIn K cd2 "raised" = true) (k2 : PySem.W.keepIn K (.ref f2) = true)
    (a3 : PySem.W.nsIn K mainGlobals "shifted" = some (some (.ref f3))) (l3 : K.lookup f3 = some ⟨oc3, od3, .func (PySem.W.fnOf "shifted" "shifted" (defArgs s_shifted) (defBody s_shifted) (defScope s_shifted) .none kV3 dc3 pm3 an3 cd3 ct3), sl3⟩) (c3 : PySem.W.codeIn K cd3 "shifted" = true) (k3 : PySem.W.keepIn K (.ref f3) = true)
    (a4 : PySem.W.nsIn K mainGlobals "log_of" = some (some (.ref f4))) (l4 : K.lookup f4 = some ⟨oc4, od4, .func (PySem.W.fnOf "log_of" "log_of" (defArgs s_log_of) (defBody s_log_of) (defScope s_log_of) .none kV4 dc4 pm4 an4 cd4 ct4), sl4⟩) (c4 : PySem.W.codeIn K cd4 "log_of" = true) (k4 : PySem.W.keepIn K (.ref f4) = true)
    (a5 : PySem.W.nsIn K mainGlobals "rounded_by" = some (some (.ref f5))) (l5 : K.lookup f5 = some ⟨oc5, od5, .func (PySem.W.fnOf "rounded_by" "rounded_by" (defArgs s_rounded_by) (defBody s_rounded_by) (defScope s_rounded_by) .none kV5 dc5 pm5 an5 cd5 ct5), sl5⟩) (c5 : PySem.W.codeIn K cd5 "rounded_by" = true) (k5 : PySem.W.keepIn K (.ref f5) = true)
    (a6 : PySem.W.nsIn K mainGlobals "sign_at" = some (some (.ref f6))) (l6 : K.lookup f6 = some ⟨oc6, od6, .func (PySem.W.fnOf "sign_at" "sign_at" (defArgs s_sign_at) (defBody s_sign_at) (defScope s_sign_at) .none kV6 dc6 pm6 an6 cd6 ct6), sl6⟩) (c6 : PySem.W.codeIn K cd6 "sign_at" = true) (k6 : PySem.W.keepIn K (.ref f6) = true)
    (a7 : PySem.W.nsIn K mainGlobals "mantissa_at" = some (some (.ref f7))) (l7 : K.lookup f7 = some ⟨oc7, od7, .func (PySem.W.fnOf "mantissa_at" "mantissa_at" (defArgs s_mantissa_at) (defBody s_mantissa_at) (defScope s_mantissa_at) .none kV7 dc7 pm7 an7 cd7 ct7), sl7⟩) (c7 : PySem.W.codeIn K cd7 "mantissa_at" = true) (k7 : PySem.W.keepIn K (.ref f7) = true)
    (a8 : PySem.W.nsIn K mainGlobals "check_infinite" = some (some (.ref f8))) (l8 : K.lookup f8 = some ⟨oc8, od8, .func (PySem.W.fnOf "check_infinite" "check_infinite" (defArgs s_check_infinite) (defBody s_check_infinite) (defScope s_check_infinite) .none kV8 dc8 pm8 an8 cd8 ct8), sl8⟩) (c8 : PySem.W.codeIn K cd8 "check_infinite" = true) (k8 : PySem.W.keepIn K (.ref f8) = true)
    (a9 : PySem.W.nsIn K mainGlobals "_law_deck" = some (some (.ref f9))) (l9 : K.lookup f9 = some ⟨oc9, od9, .func (PySem.W.fnOf "_law_deck" "_law_deck" (defArgs s_L_deck) (defBody s_L_deck) (defScope s_L_deck) .none kV9 dc9 pm9 an9 cd9 ct9), sl9⟩) (c9 : PySem.W.codeIn K cd9 "_law_deck" = true) (k9 : PySem.W.keepIn K (.ref f9) = true)
    (a10 : PySem.W.nsIn K mainGlobals "_law_draw" = some (some (.ref f10))) (l10 : K.lookup f10 = some ⟨oc10, od10, .func (PySem.W.fnOf "_law_draw" "_law_draw" (defArgs s_L_draw) (defBody s_L_draw) (defScope s_L_draw) .none kV10 dc10 pm10 an10 cd10 ct10), sl10⟩) (c10 : PySem.W.codeIn K cd10 "_law_draw" = true) (k10 : PySem.W.keepIn K (.ref f10) = true)
    (a11 : PySem.W.nsIn K mainGlobals "_law_power" = some (some (.ref f11))) (l11 : K.lookup f11 = some ⟨oc11, od11, .func (PySem.W.fnOf "_law_power" "_law_power" (defArgs s_L_power) (defBody s_L_power) (defScope s_L_power) .none kV11 dc11 pm11 an11 cd11 ct11), sl11⟩) (c11 : PySem.W.codeIn K cd11 "_law_power" = true) (k11 : PySem.W.keepIn K (.ref f11) = true)
    (a12 : PySem.W.nsIn K mainGlobals "_law_numbers" = some (some (.ref f12))) (l12 : K.lookup f12 = some ⟨oc12, od12, .func (PySem.W.fnOf "_law_numbers" "_law_numbers" (defArgs s_L_numbers) (defBody s_L_numbers) (defScope s_L_numbers) .none kV12 dc12 pm12 an12 cd12 ct12), sl12⟩) (c12 : PySem.W.codeIn K cd12 "_law_numbers" = true) (k12 : PySem.W.keepIn K (.ref f12) = true)
    (a13 : PySem.W.nsIn K mainGlobals "_law_between" = some (some (.ref f13))) (l13 : K.lookup f13 = some ⟨oc13, od13, .func (PySem.W.fnOf "_law_between" "_law_between" (defArgs s_L_between) (defBody s_L_between) (defScope s_L_between) .none kV13 dc13 pm13 an13 cd13 ct13), sl13⟩) (c13 : PySem.W.codeIn K cd13 "_law_between" = true) (k13 : PySem.W.keepIn K (.ref f13) = true)
    (a14 : PySem.W.nsIn K mainGlobals "fraction_of" = some (some (.ref f14))) (l14 : K.lookup f14 = some ⟨oc14, od14, .func (PySem.W.fnOf "fraction_of" "fraction_of" (defArgs s_fraction_of) (defBody s_fraction_of) (defScope s_fraction_of) .none kV14 dc14 pm14 an14 cd14 ct14), sl14⟩) (c14 : PySem.W.codeIn K cd14 "fraction_of" = true) (k14 : PySem.W.keepIn K (.ref f14) = true)
    (a15 : PySem.W.nsIn K mainGlobals "exponent_at" = some (some (.ref f15))) (l15 : K.lookup f15 = some ⟨oc15, od15, .func (PySem.W.fnOf "exponent_at" "exponent_at" (defArgs s_exponent_at) (defBody s_exponent_at) (defScope s_exponent_at) .none kV15 dc15 pm15 an15 cd15 ct15), sl15⟩) (c15 : PySem.W.codeIn K cd15 "exponent_at" = true) (k15 : PySem.W.keepIn K (.ref f15) = true)
    (a16 : PySem.W.nsIn K mainGlobals "greatest_read" = some (some (.ref f16))) (l16 : K.lookup f16 = some ⟨oc16, od16, .func (PySem.W.fnOf "greatest_read" "greatest_read" (defArgs s_greatest_read) (defBody s_greatest_read) (defScope s_greatest_read) .none kV16 dc16 pm16 an16 cd16 ct16), sl16⟩) (c16 : PySem.W.codeIn K cd16 "greatest_read" = true) (k16 : PySem.W.keepIn K (.ref f16) = true)
    (a17 : PySem.W.nsIn K mainGlobals "exponent_at_end" = some (some (.ref f17))) (l17 : K.lookup f17 = some ⟨oc17, od17, .func (PySem.W.fnOf "exponent_at_end" "exponent_at_end" (defArgs s_exponent_at_end) (defBody s_exponent_at_end) (defScope s_exponent_at_end) .none kV17 dc17 pm17 an17 cd17 ct17), sl17⟩) (c17 : PySem.W.codeIn K cd17 "exponent_at_end" = true) (k17 : PySem.W.keepIn K (.ref f17) = true)
    (a18 : PySem.W.nsIn K mainGlobals "_law_form" = some (some (.ref f18))) (l18 : K.lookup f18 = some ⟨oc18, od18, .func (PySem.W.fnOf "_law_form" "_law_form" (defArgs s_L_form) (defBody s_L_form) (defScope s_L_form) .none kV18 dc18 pm18 an18 cd18 ct18), sl18⟩) (c18 : PySem.W.codeIn K cd18 "_law_form" = true) (k18 : PySem.W.keepIn K (.ref f18) = true)
    (a19 : PySem.W.nsIn K mainGlobals "_law_code" = some (some (.ref f19))) (l19 : K.lookup f19 = some ⟨oc19, od19, .func (PySem.W.fnOf "_law_code" "_law_code" (defArgs s_L_code) (defBody s_L_code) (defScope s_L_code) .none kV19 dc19 pm19 an19 cd19 ct19), sl19⟩) (c19 : PySem.W.codeIn K cd19 "_law_code" = true) (k19 : PySem.W.keepIn K (.ref f19) = true)
    (a20 : PySem.W.nsIn K mainGlobals "_law_near_middle" = some (some (.ref f20))) (l20 : K.lookup f20 = some ⟨oc20, od20, .func (PySem.W.fnOf "_law_near_middle" "_law_near_middle" (defArgs s_L_near_middle) (defBody s_L_near_middle) (defScope s_L_near_middle) .none kV20 dc20 pm20 an20 cd20 ct20), sl20⟩) (c20 : PySem.W.codeIn K cd20 "_law_near_middle" = true) (k20 : PySem.W.keepIn K (.ref f20) = true)
    (a21 : PySem.W.nsIn K mainGlobals "rough_position" = some (some (.ref f21))) (l21 : K.lookup f21 = some ⟨oc21, od21, .func (PySem.W.fnOf "rough_position" "rough_position" (defArgs s_rough_position) (defBody s_rough_position) (defScope s_rough_position) .none kV21 dc21 pm21 an21 cd21 ct21), sl21⟩) (c21 : PySem.W.codeIn K cd21 "rough_position" = true) (k21 : PySem.W.keepIn K (.ref f21) = true)
    (a22 : PySem.W.nsIn K mainGlobals "hex_parts" = some (some (.ref f22))) (l22 : K.lookup f22 = some ⟨oc22, od22, .func (PySem.W.fnOf "hex_parts" "hex_parts" (defArgs s_hex_parts) (defBody s_hex_parts) (defScope s_hex_parts) .none kV22 dc22 pm22 an22 cd22 ct22), sl22⟩) (c22 : PySem.W.codeIn K cd22 "hex_parts" = true) (k22 : PySem.W.keepIn K (.ref f22) = true)
    (a23 : PySem.W.nsIn K mainGlobals "decimal_parts" = some (some (.ref f23))) (l23 : K.lookup f23 = some ⟨oc23, od23, .func (PySem.W.fnOf "decimal_parts" "decimal_parts" (defArgs s_decimal_parts) (defBody s_decimal_parts) (defScope s_decimal_parts) .none kV23 dc23 pm23 an23 cd23 ct23), sl23⟩) (c23 : PySem.W.codeIn K cd23 "decimal_parts" = true) (k23 : PySem.W.keepIn K (.ref f23) = true)
    (a24 : PySem.W.nsIn K mainGlobals "_law_text" = some (some (.ref f24))) (l24 : K.lookup f24 = some ⟨oc24, od24, .func (PySem.W.fnOf "_law_text" "_law_text" (defArgs s_L_text) (defBody s_L_text) (defScope s_L_text) .none kV24 dc24 pm24 an24 cd24 ct24), sl24⟩) (c24 : PySem.W.codeIn K cd24 "_law_text" = true) (k24 : PySem.W.keepIn K (.ref f24) = true)
    (a25 : PySem.W.nsIn K mainGlobals "read_fraction" = some (some (.ref f25))) (l25 : K.lookup f25 = some ⟨oc25, od25, .func (PySem.W.fnOf "read_fraction" "read_fraction" (defArgs s_read_fraction) (defBody s_read_fraction) (defScope s_read_fraction) .none kV25 dc25 pm25 an25 cd25 ct25), sl25⟩) (c25 : PySem.W.codeIn K cd25 "read_fraction" = true) (k25 : PySem.W.keepIn K (.ref f25) = true)
    (a26 : PySem.W.nsIn K mainGlobals "parse_text" = some (some (.ref f26))) (l26 : K.lookup f26 = some ⟨oc26, od26, .func (PySem.W.fnOf "parse_text" "parse_text" (defArgs s_parse_text) (defBody s_parse_text) (defScope s_parse_text) .none kV26 dc26 pm26 an26 cd26 ct26), sl26⟩) (c26 : PySem.W.codeIn K cd26 "parse_text" = true) (k26 : PySem.W.keepIn K (.ref f26) = true)
    (a27 : PySem.W.nsIn K mainGlobals "read" = some (some (.ref f27))) (l27 : K.lookup f27 = some ⟨oc27, od27, .func (PySem.W.fnOf "read" "read" (defArgs s_read) (defBody s_read) (defScope s_read) .none kV27 dc27 pm27 an27 cd27 ct27), sl27⟩) (c27 : PySem.W.codeIn K cd27 "read" = true) (k27 : PySem.W.keepIn K (.ref f27) = true)
    (a28 : PySem.W.nsIn K mainGlobals "read_text" = some (some (.ref f28))) (l28 : K.lookup f28 = some ⟨oc28, od28, .func (PySem.W.fnOf "read_text" "read_text" (defArgs s_read_text) (defBody s_read_text) (defScope s_read_text) .none kV28 dc28 pm28 an28 cd28 ct28), sl28⟩) (c28 : PySem.W.codeIn K cd28 "read_text" = true) (k28 : PySem.W.keepIn K (.ref f28) = true)
    (a29 : PySem.W.nsIn K mainGlobals "_law_fails" = some (some (.ref f29))) (l29 : K.lookup f29 = some ⟨oc29, od29, .func (PySem.W.fnOf "_law_fails" "_law_fails" (defArgs s_L_fails) (defBody s_L_fails) (defScope s_L_fails) .none kV29 dc29 pm29 an29 cd29 ct29), sl29⟩) (c29 : PySem.W.codeIn K cd29 "_law_fails" = true) (k29 : PySem.W.keepIn K (.ref f29) = true)
    (a30 : PySem.W.nsIn K mainGlobals "law" = some (some (.ref f30))) (l30 : K.lookup f30 = some ⟨oc30, od30, .func (PySem.W.fnOf "law" "law" (defArgs s_law) (defBody s_law) (defScope s_law) .none kV30 dc30 pm30 an30 cd30 ct30), sl30⟩) (c30 : PySem.W.codeIn K cd30 "law" = true) (k30 : PySem.W.keepIn K (.ref f30) = true)
    (z_abs : PySem.W.nsIn K mainGlobals "abs" = some none) (z_int : PySem.W.nsIn K mainGlobals "int" = some none) (z_isinstance : PySem.W.nsIn K mainGlobals "isinstance" = some none) (z_len : PySem.W.nsIn K mainGlobals "len" = some none) (z_max : PySem.W.nsIn K mainGlobals "max" = some none) (z_min : PySem.W.nsIn K mainGlobals "min" = some none) (z_range : PySem.W.nsIn K mainGlobals "range" = some none) (z_repr : PySem.W.nsIn K mainGlobals "repr" = some none) (z_reversed : PySem.W.nsIn K mainGlobals "reversed" = some none) (z_str : PySem.W.nsIn K mainGlobals "str" = some none)  {tk_MAX_DIGITS : Tok} (v_MAX_DIGITS : PySem.W.nsIn K mainGlobals "MAX_DIGITS" = some (some (.int 1300 tk_MAX_DIGITS))) {tk_MAX_EXP : Tok} (v_MAX_EXP : PySem.W.nsIn K mainGlobals "MAX_EXP" = some (some (.int 1200 tk_MAX_EXP))) {tk_MAX_HEX_DIGITS : Tok} (v_MAX_HEX_DIGITS : PySem.W.nsIn K mainGlobals "MAX_HEX_DIGITS" = some (some (.int 300 tk_MAX_HEX_DIGITS))) {tk_MAX_HEX_EXP : Tok} (v_MAX_HEX_EXP : PySem.W.nsIn K mainGlobals "MAX_HEX_EXP" = some (some (.int 1400 tk_MAX_HEX_EXP))) {tk_DIGITS : Tok} (v_DIGITS : PySem.W.nsIn K mainGlobals "DIGITS" = some (some (.str (PySem.Str.ofString "0123456789") tk_DIGITS))) {tk_HEX_DIGITS : Tok} (v_HEX_DIGITS : PySem.W.nsIn K mainGlobals "HEX_DIGITS" = some (some (.str (PySem.Str.ofString "0123456789abcdef") tk_HEX_DIGITS)))  {osm : Obj} (sm0 : K.lookup sysModules = some osm) (nd0 : PySem.W.nsIn K cStatics "sys.int_max_str_digits" = some none) (xa_BadText : PySem.W.nsIn K mainGlobals "BadText" = some (some (.ref C_BadText))) (xl_BadText : K.lookup C_BadText = some (excClassObj nm_BadText qn_BadText C_BadText N_BadText bs_BadText bm_BadText true sn_BadText sub_BadText ab_BadText col_BadText dd_BadText m0_BadText m1_BadText m2_BadText m3_BadText m5_BadText "ValueError.__new__")) (xb_BadText : DL.xBaseB bm_BadText "ValueError.__new__" = true) (xs_BadText : PySem.W.findIn K (.ref C_BadText) "__setattr__" = some (some (.builtin "object.__setattr__"))) (xn_BadText : PySem.W.findIn K (.ref C_BadText) "place" = some none) (xi_BadText : PySem.W.findIn K (.ref C_BadText) "__init__" = some (some (.ref fI_BadText))) (xt_BadText : PySem.W.typeIn K (.ref fI_BadText) = some (.type "function")) (xk_BadText : PySem.W.keepIn K (.ref C_BadText) = true) (xy_BadText : PySem.W.typeIn K (.ref C_BadText) = some (.type "type")) (xf_BadText : K.lookup fI_BadText = some ⟨oc_BadText, od_BadText, .func (PySem.W.fnOf "__init__" "BadText.__init__" (defArgs (DL.clsInit (topS 4))) (defBody (DL.clsInit (topS 4))) (defScope (DL.clsInit (topS 4))) .none .none dc_BadText pm_BadText an_BadText cd_BadText ct_BadText), sl_BadText⟩) (xd_BadText : PySem.W.codeIn K cd_BadText "BadText.__init__" = true) (xe_BadText : PySem.W.subIn K (.ref C_BadText) (.type "BaseException") = some true) (xg_BadText : PySem.W.findIn K (.ref C_BadText) "__getattribute__" = some (some (.builtin "BaseException.__getattribute__"))) (xq_BadText : PySem.W.findIn K (.ref C_BadText) "__getattr__" = some none) (xh_BadText : PySem.W.hasDictIn K C_BadText = true) (xc_BadText : PySem.W.findIn K (.ref C_BadText) "__class__" = some (some (.builtin "object.__class__"))) (xm_BadText : PySem.W.mroIn K C_BadText (.type "object") = some true) (xo_1 : PySem.W.specialIn K (.builtin "object.__class__") "__get__" = some (some (.builtin "getset_descriptor.__get__"))) (xo_2 : PySem.W.takesIn K (.builtin "object.__class__") = some true) (xe_BadText_BadText : PySem.W.exmOne K (.ref C_BadText) (.ref C_BadText) = some true) : Tx K mg where
  m_abs := PySem.W.mg_none_of X G z_abs
  m_int := PySem.W.mg_none_of X G z_int
  m_isinstance := PySem.W.mg_none_of X G z_isinstance
  m_len := PySem.W.mg_none_of X G z_len
  m_max := PySem.W.mg_none_of X G z_max
  m_min := PySem.W.mg_none_of X G z_min
  m_range := PySem.W.mg_none_of X G z_range
  m_repr := PySem.W.mg_none_of X G z_repr
  m_reversed := PySem.W.mg_none_of X G z_reversed
  m_str := PySem.W.mg_none_of X G z_str
  c_MAX_DIGITS := ⟨_, PySem.W.mg_of X G v_MAX_DIGITS⟩
  c_MAX_EXP := ⟨_, PySem.W.mg_of X G v_MAX_EXP⟩
  c_MAX_HEX_DIGITS := ⟨_, PySem.W.mg_of X G v_MAX_HEX_DIGITS⟩
  c_MAX_HEX_EXP := ⟨_, PySem.W.mg_of X G v_MAX_HEX_EXP⟩
  s_DIGITS := ⟨_, PySem.W.mg_of X G v_DIGITS⟩
  s_HEX_DIGITS := ⟨_, PySem.W.mg_of X G v_HEX_DIGITS⟩
  sm := ⟨_, sm0⟩
  x_BadText := ⟨C_BadText, fI_BadText, PySem.W.mg_of X G xa_BadText, ⟨_, _, _, _, _, _, _, _, _, _, _, _, _, _, _, _, xl_BadText, DL.xBase_of xb_BadText⟩, xs_BadText, xn_BadText, xi_BadText, xt_BadText, xk_BadText, xe_BadText, xy_BadText, by decide, by decide, by decide, ⟨_, _, _, _, _, _, _, _, _, _, _, _, _, _, _, xf_BadText, xd_BadText, fun _ _ => rfl⟩⟩
  n_BadText := ⟨_, PySem.W.mg_of X G xa_BadText⟩
  xf_BadText_place := ⟨_, PySem.W.mg_of X G xa_BadText, ⟨xg_BadText, xq_BadText, xe_BadText, xh_BadText⟩, xn_BadText⟩
  e_BadText_BadText := fun CM hM => by have e := hM.symm.trans (PySem.W.mg_of X G xa_BadText); cases e; exact ⟨_, PySem.W.mg_of X G xa_BadText, xe_BadText_BadText⟩
  nd := nd0
  f_count_of := ⟨f1, _, PySem.W.mg_of X G a1, fun_mk (st := s_count_of) l1 c1 k1, fun us hl => match us, hl with | [_], _ => rfl⟩
  f_raised := ⟨f2, _, PySem.W.mg_of X G a2, fun_mk (st := s_raised) l2 c2 k2, fun us hl => match us, hl with | [_, _], _ => rfl⟩
  f_shifted := ⟨f3, _, PySem.W.mg_of X G a3, fun_mk (st := s_shifted) l3 c3 k3, fun us hl => match us, hl with | [_, _], _ => rfl⟩
  f_log_of := ⟨f4, _, PySem.W.mg_of X G a4, fun_mk (st := s_log_of) l4 c4 k4, fun us hl => match us, hl with | [_, _], _ => rfl⟩
  f_rounded_by := ⟨f5, _, PySem.W.mg_of X G a5, fun_mk (st := s_rounded_by) l5 c5 k5, fun us hl => match us, hl with | [_, _, _], _ => rfl⟩
  f_sign_at := ⟨f6, _, PySem.W.mg_of X G a6, fun_mk (st := s_sign_at) l6 c6 k6, fun us hl => match us, hl with | [_, _], _ => rfl⟩
  f_mantissa_at := ⟨f7, _, PySem.W.mg_of X G a7, fun_mk (st := s_mantissa_at) l7 c7 k7, fun us hl => match us, hl with | [_, _, _, _], _ => rfl⟩
  f_check_infinite := ⟨f8, _, PySem.W.mg_of X G a8, fun_mk (st := s_check_infinite) l8 c8 k8, fun us hl => match us, hl with | [_, _], _ => rfl⟩
  f_L_deck := ⟨f9, _, PySem.W.mg_of X G a9, fun_mk (st := s_L_deck) l9 c9 k9, fun us hl => match us, hl with | [_], _ => rfl⟩
  f_L_draw := ⟨f10, _, PySem.W.mg_of X G a10, fun_mk (st := s_L_draw) l10 c10 k10, fun us hl => match us, hl with | [_, _], _ => rfl⟩
  f_L_power := ⟨f11, _, PySem.W.mg_of X G a11, fun_mk (st := s_L_power) l11 c11 k11, fun us hl => match us, hl with | [_, _], _ => rfl⟩
  f_L_numbers := ⟨f12, _, PySem.W.mg_of X G a12, fun_mk (st := s_L_numbers) l12 c12 k12, fun us hl => match us, hl with | [_], _ => rfl⟩
  f_L_between := ⟨f13, _, PySem.W.mg_of X G a13, fun_mk (st := s_L_between) l13 c13 k13, fun us hl => match us, hl with | [_, _, _], _ => rfl⟩
  f_fraction_of := ⟨f14, _, PySem.W.mg_of X G a14, fun_mk (st := s_fraction_of) l14 c14 k14, fun us hl => match us, hl with | [_], _ => rfl⟩
  f_exponent_at := ⟨f15, _, PySem.W.mg_of X G a15, fun_mk (st := s_exponent_at) l15 c15 k15, fun us hl => match us, hl with | [_, _, _], _ => rfl⟩
  f_greatest_read := ⟨f16, _, PySem.W.mg_of X G a16, fun_mk (st := s_greatest_read) l16 c16 k16, fun us hl => match us, hl with | [_, _], _ => rfl⟩
  f_exponent_at_end := ⟨f17, _, PySem.W.mg_of X G a17, fun_mk (st := s_exponent_at_end) l17 c17 k17, fun us hl => match us, hl with | [_, _, _], _ => rfl⟩
  f_L_form := ⟨f18, _, PySem.W.mg_of X G a18, fun_mk (st := s_L_form) l18 c18 k18, fun us hl => match us, hl with | [_], _ => rfl⟩
  f_L_code := ⟨f19, _, PySem.W.mg_of X G a19, fun_mk (st := s_L_code) l19 c19 k19, fun us hl => match us, hl with | [_, _, _, _], _ => rfl⟩
  f_L_near_middle := ⟨f20, _, PySem.W.mg_of X G a20, fun_mk (st := s_L_near_middle) l20 c20 k20, fun us hl => match us, hl with | [_, _], _ => rfl⟩
  f_rough_position := ⟨f21, _, PySem.W.mg_of X G a21, fun_mk (st := s_rough_position) l21 c21 k21, fun us hl => match us, hl with | [_, _, _], _ => rfl⟩
  f_hex_parts := ⟨f22, _, PySem.W.mg_of X G a22, fun_mk (st := s_hex_parts) l22 c22 k22, fun us hl => match us, hl with | [_, _], _ => rfl⟩
  f_decimal_parts := ⟨f23, _, PySem.W.mg_of X G a23, fun_mk (st := s_decimal_parts) l23 c23 k23, fun us hl => match us, hl with | [_, _], _ => rfl⟩
  f_L_text := ⟨f24, _, PySem.W.mg_of X G a24, fun_mk (st := s_L_text) l24 c24 k24, fun us hl => match us, hl with | [_, _], _ => rfl⟩
  f_read_fraction := ⟨f25, _, PySem.W.mg_of X G a25, fun_mk (st := s_read_fraction) l25 c25 k25, fun us hl => match us, hl with | [_, _, _, _], _ => rfl⟩
  f_parse_text := ⟨f26, _, PySem.W.mg_of X G a26, fun_mk (st := s_parse_text) l26 c26 k26, fun us hl => match us, hl with | [_], _ => rfl⟩
  f_read := ⟨f27, _, PySem.W.mg_of X G a27, fun_mk (st := s_read) l27 c27 k27, fun us hl => match us, hl with | [_, _, _], _ => rfl⟩
  f_read_text := ⟨f28, _, PySem.W.mg_of X G a28, fun_mk (st := s_read_text) l28 c28 k28, fun us hl => match us, hl with | [_, _, _], _ => rfl⟩
  f_L_fails := ⟨f29, _, PySem.W.mg_of X G a29, fun_mk (st := s_L_fails) l29 c29 k29, fun us hl => match us, hl with | [_, _, _], _ => rfl⟩
  f_law := ⟨f30, _, PySem.W.mg_of X G a30, fun_mk (st := s_law) l30 c30 k30, fun us hl => match us, hl with | [_], _ => rfl⟩
end Law
open PySem PySem.W PyProof.Rows
set_option maxHeartbeats 0 in
theorem PySem.Challenge.cw_numbertexts_k14_texts_read_holds : PySem.Challenge.rw_numbertexts_k14_texts_read.Holds := by
  w_on; o_law; x_head; (case hw => w_witness2)
  k_fill
  refine DL.walk_T (l := PySem.Challenge.rw_numbertexts_k14_texts_read) (n := 63) (k := 8) (x := "_law_script") (F := Law.F_law) (TX := Law.Tx) rfl (by decide) rfl ⟨rfl, by decide, by decide⟩ (fun w h Y => PySem.W.kIn_of Y) (fun w K mg base T => Law.all_law T) (fun K mg T => ⟨_, T.f_law⟩) ?F Law.law_true
  case F =>
    intro w mg h KX G
    refine' Law.tx_mk KX G ?a1 ?l1 ?c1 ?k1 ?a2 ?l2 ?c2 ?k2 ?a3 ?l3 ?c3 ?k3 ?a4 ?l4 ?c4 ?k4 ?a5 ?l5 ?c5 ?k5 ?a6 ?l6 ?c6 ?k6 ?a7 ?l7 ?c7 ?k7 ?a8 ?l8 ?c8 ?k8 ?a9 ?l9 ?c9 ?k9 ?a10 ?l10 ?c10 ?k10 ?a11 ?l11 ?c11 ?k11 ?a12 ?l12 ?c12 ?k12 ?a13 ?l13 ?c13 ?k13 ?a14 ?l14 ?c14 ?k14 ?a15 ?l15 ?c15 ?k15 ?a16 ?l16 ?c16 ?k16 ?a17 ?l17 ?c17 ?k17 ?a18 ?l18 ?c18 ?k18 ?a19 ?l19 ?c19 ?k19 ?a20 ?l20 ?c20 ?k20 ?a21 ?l21 ?c21 ?k21 ?a22 ?l22 ?c22 ?k22 ?a23 ?l23 ?c23 ?k23 ?a24 ?l24 ?c24 ?k24 ?a25 ?l25 ?c25 ?k25 ?a26 ?l26 ?c26 ?k26 ?a27 ?l27 ?c27 ?k27 ?a28 ?l28 ?c28 ?k28 ?a29 ?l29 ?c29 ?k29 ?a30 ?l30 ?c30 ?k30 ?z_abs ?z_int ?z_isinstance ?z_len ?z_max ?z_min ?z_range ?z_repr ?z_reversed ?z_str  ?v_MAX_DIGITS ?v_MAX_EXP ?v_MAX_HEX_DIGITS ?v_MAX_HEX_EXP ?v_DIGITS ?v_HEX_DIGITS ?sm0 ?nd0 ?xa_BadText ?xl_BadText ?xb_BadText ?xs_BadText ?xn_BadText ?xi_BadText ?xt_BadText ?xk_BadText ?xy_BadText ?xf_BadText ?xd_BadText ?xe_BadText ?xg_BadText ?xq_BadText ?xh_BadText ?xc_BadText ?xm_BadText ?xo_1 ?xo_2 ?xe_BadText_BadText
    (case a1 => k_is); (case l1 => k_is); (case c1 => k_is); (case k1 => k_is); (case a2 => k_is); (case l2 => k_is); (case c2 => k_is); (case k2 => k_is); (case a3 => k_is); (case l3 => k_is); (case c3 => k_is); (case k3 => k_is); (case a4 => k_is); (case l4 => k_is); (case c4 => k_is); (case k4 => k_is); (case a5 => k_is); (case l5 => k_is); (case c5 => k_is); (case k5 => k_is); (case a6 => k_is); (case l6 => k_is); (case c6 => k_is); (case k6 => k_is); (case a7 => k_is); (case l7 => k_is); (case c7 => k_is); (case k7 => k_is); (case a8 => k_is); (case l8 => k_is); (case c8 => k_is); (case k8 => k_is); (case a9 => k_is); (case l9 => k_is); (case c9 => k_is); (case k9 => k_is); (case a10 => k_is); (case l10 => k_is); (case c10 => k_is); (case k10 => k_is); (case a11 => k_is); (case l11 => k_is); (case c11 => k_is); (case k11 => k_is); (case a12 => k_is); (case l12 => k_is); (case c12 => k_is); (case k12 => k_is); (case a13 => k_is); (case l13 => k_is); (case c13 => k_is); (case k13 => k_is); (case a14 => k_is); (case l14 => k_is); (case c14 => k_is); (case k14 => k_is); (case a15 => k_is); (case l15 => k_is); (case c15 => k_is); (case k15 => k_is); (case a16 => k_is); (case l16 => k_is); (case c16 => k_is); (case k16 => k_is); (case a17 => k_is); (case l17 => k_is); (case c17 => k_is); (case k17 => k_is); (case a18 => k_is); (case l18 => k_is); (case c18 => k_is); (case k18 => k_is); (case a19 => k_is); (case l19 => k_is); (case c19 => k_is); (case k19 => k_is); (case a20 => k_is); (case l20 => k_is); (case c20 => k_is); (case k20 => k_is); (case a21 => k_is); (case l21 => k_is); (case c21 => k_is); (case k21 => k_is); (case a22 => k_is); (case l22 => k_is); (case c22 => k_is); (case k22 => k_is); (case a23 => k_is); (case l23 => k_is); (case c23 => k_is); (case k23 => k_is); (case a24 => k_is); (case l24 => k_is); (case c24 => k_is); (case k24 => k_is); (case a25 => k_is); (case l25 => k_is); (case c25 => k_is); (case k25 => k_is); (case a26 => k_is); (case l26 => k_is); (case c26 => k_is); (case k26 => k_is); (case a27 => k_is); (case l27 => k_is); (case c27 => k_is); (case k27 => k_is); (case a28 => k_is); (case l28 => k_is); (case c28 => k_is); (case k28 => k_is); (case a29 => k_is); (case l29 => k_is); (case c29 => k_is); (case k29 => k_is); (case a30 => k_is); (case l30 => k_is); (case c30 => k_is); (case k30 => k_is); (case z_abs => k_is); (case z_int => k_is); (case z_isinstance => k_is); (case z_len => k_is); (case z_max => k_is); (case z_min => k_is); (case z_range => k_is); (case z_repr => k_is); (case z_reversed => k_is); (case z_str => k_is); (case v_MAX_DIGITS => k_is); (case v_MAX_EXP => k_is); (case v_MAX_HEX_DIGITS => k_is); (case v_MAX_HEX_EXP => k_is); (case v_DIGITS => k_is); (case v_HEX_DIGITS => k_is); (case sm0 => k_is); (case nd0 => k_is); (case xa_BadText => k_is); (case xl_BadText => k_is); (case xb_BadText => rfl); (case xs_BadText => k_is); (case xn_BadText => k_is); (case xi_BadText => k_is); (case xt_BadText => k_is); (case xk_BadText => k_is); (case xy_BadText => k_is); (case xf_BadText => k_is); (case xd_BadText => k_is); (case xe_BadText => k_is); (case xg_BadText => k_is); (case xq_BadText => k_is); (case xh_BadText => k_is); (case xc_BadText => k_is); (case xm_BadText => k_is); (case xo_1 => k_is); (case xo_2 => k_is); (case xe_BadText_BadText => first | k_is | rfl | decide +kernel)
