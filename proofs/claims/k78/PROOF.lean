import PyProof.Rows.All
import Wide.All
import OpenK.AllK
import Wide.FinOn
import HandS.ForMost
import HandS.Wide
import HandS.WideBits
import HandS.Style
import HandS.TupAny
import HandS.TupMul
import HandS.IsInst
import HandS.RaiseMore
import HandS.Gcd
import PyProof.ReprRoads
import HandS.NoneIn
import PyProof.LongRange
import HandS.RevRange
import HandS.FStrTup
import KE.KRevSl
import HandS.Zip
import HandS.Iter
import HandS.Conv
import KE.BitLaws
import HandS.List
import HandS.TupLe
import PySem.Challenge.RW_numbertexts_k78_fast_decimals_by_any_row
set_option Elab.async false
set_option linter.all false
set_option maxRecDepth 100000
/-! data instead of addresses: values D, a relation to the layer's heap, readings over D -/
namespace DL
open PySem PySem.Spec PyProof.Rows L2

inductive D where
  | non | bl (b : Bool) | int (i : Int) | str (x : Str) | tup (l : List D) | lst (l : List D) | own (l : List D) | frz (l : List D) | box (i : Nat) | ty (n : String)

abbrev Mem := List (List D)
abbrev DSt := List (Option D)

def OkL (M : Addr → Prop) (H : Hp) (a : Addr) (xs : List V) : Prop := ¬ M a ∧ H a = some (.lst xs)
def OkF (K : PySem.W.Frag) (M : Addr → Prop) (H : Hp) (a : Addr) (xs : List V) : Prop := (¬ M a ∧ ∃ o, H a = some (.frz o (.lst xs))) ∨ SqL K (fun _ => none) a xs
def OkT (K : PySem.W.Frag) (M : Addr → Prop) (H : Hp) (a : Addr) (xs : List V) : Prop := (¬ M a ∧ Rd H a (.tup xs)) ∨ SqT K (fun _ => none) a xs
section
variable {K : PySem.W.Frag} {M M' : Addr → Prop} {H H' : Hp} {a : Addr} {xs : List V}
theorem rd_none {u : HO} : ¬ Rd (fun _ => none) a u := fun r => by
  rcases r with r | ⟨o, r⟩ <;> cases r
theorem OkL.sq (h : OkL M H a xs) : SqL K H a xs := SqL.of h.2
theorem OkF.sq (h : OkF K M H a xs) : SqL K H a xs := by
  rcases h with ⟨_, r⟩ | h
  · exact .inl (.inr r)
  · rcases h with r | w
    · exact absurd r rd_none
    · exact .inr w
theorem OkT.sq (h : OkT K M H a xs) : SqT K H a xs := by
  rcases h with ⟨_, r⟩ | h
  · exact .inl r
  · rcases h with r | w
    · exact absurd r rd_none
    · exact .inr w
/-- what is not meant to change is as it was -/
def Kp (M M' : Addr → Prop) (H H' : Hp) : Prop := ∀ a o, ¬ M a → H a = some o → H' a = some o ∧ ¬ M' a
theorem Kp.rd {u : HO} (k : Kp M M' H H') (m : ¬ M a) (r : Rd H a u) : Rd H' a u ∧ ¬ M' a := by
  rcases r with r | ⟨o, r⟩
  · exact ⟨.inl (k _ _ m r).1, (k _ _ m r).2⟩
  · exact ⟨.inr ⟨o, (k _ _ m r).1⟩, (k _ _ m r).2⟩
theorem OkL.stay (k : Kp M M' H H') (h : OkL M H a xs) : OkL M' H' a xs := ⟨(k _ _ h.1 h.2).2, (k _ _ h.1 h.2).1⟩
theorem OkF.stay (k : Kp M M' H H') (h : OkF K M H a xs) : OkF K M' H' a xs := by
  rcases h with ⟨m, o, e⟩ | h
  · exact .inl ⟨(k _ _ m e).2, o, (k _ _ m e).1⟩
  · exact .inr h
theorem OkT.stay (k : Kp M M' H H') (h : OkT K M H a xs) : OkT K M' H' a xs := by
  rcases h with ⟨m, r⟩ | h
  · exact .inl ⟨(k.rd m r).2, (k.rd m r).1⟩
  · exact .inr h
end

mutual
def Rp (K : PySem.W.Frag) (bx : List Addr) (M : Addr → Prop) (H : Hp) : D → V → Prop
  | .non, v => v = .non
  | .bl b, v => v = .bl b
  | .int i, v => v = .int i
  | .str x, v => v = .str x
  | .tup l, v => ∃ a xs, v = .ref a ∧ OkT K M H a xs ∧ Rps K bx M H l xs
  | .lst l, v => ∃ a xs, v = .ref a ∧ OkL M H a xs ∧ Rps K bx M H l xs
  | .frz l, v => ∃ a xs, v = .ref a ∧ OkF K M H a xs ∧ Rps K bx M H l xs
  | .own _, _ => False
  | .box i, v => ∃ a, bx[i]? = some a ∧ v = .ref a
  | .ty n, v => v = .ty n
def Rps (K : PySem.W.Frag) (bx : List Addr) (M : Addr → Prop) (H : Hp) : List D → List V → Prop
  | [], xs => xs = []
  | d :: l, xs => ∃ v r, xs = v :: r ∧ Rp K bx M H d v ∧ Rps K bx M H l r
end
section
variable {K : PySem.W.Frag} {bx : List Addr} {M M' : Addr → Prop} {H H' : Hp} {a : Addr} {xs : List V}
mutual
theorem Rp.stay (k : Kp M M' H H') : ∀ (d : D) (v : V), Rp K bx M H d v → Rp K bx M' H' d v
  | .non, v, h => h
  | .bl b, v, h => h
  | .int i, v, h => h
  | .str x, v, h => h
  | .tup l, v, h => by
    obtain ⟨a, xs, e, o, r⟩ := h
    exact ⟨a, xs, e, o.stay k, Rps.stay k l xs r⟩
  | .lst l, v, h => by
    obtain ⟨a, xs, e, o, r⟩ := h
    exact ⟨a, xs, e, o.stay k, Rps.stay k l xs r⟩
  | .frz l, v, h => by
    obtain ⟨a, xs, e, o, r⟩ := h
    exact ⟨a, xs, e, o.stay k, Rps.stay k l xs r⟩
  | .own l, v, h => h
  | .box i, v, h => h
  | .ty i, v, h => h
theorem Rps.stay (k : Kp M M' H H') : ∀ (l : List D) (xs : List V), Rps K bx M H l xs → Rps K bx M' H' l xs
  | [], xs, h => h
  | d :: l, xs, h => by
    obtain ⟨v, r, e, h1, h2⟩ := h
    exact ⟨v, r, e, Rp.stay k d v h1, Rps.stay k l r h2⟩
end
theorem Rps.len : ∀ {l : List D} {xs : List V}, Rps K bx M H l xs → xs.length = l.length
  | [], _, h => by rw [show _ = _ from h]; rfl
  | d :: l, xs, h => by
    obtain ⟨v, r, rfl, h1, h2⟩ := h
    simp [Rps.len h2]
theorem Rps.get : ∀ {l : List D} {xs : List V} {i : Nat} {d : D}, Rps K bx M H l xs → l[i]? = some d → ∃ v, xs[i]? = some v ∧ Rp K bx M H d v
  | [], _, _, _, _, e => by simp at e
  | d :: l, xs, 0, d', h, e => by
    obtain ⟨v, r, rfl, h1, h2⟩ := h
    simp at e; subst e
    exact ⟨v, rfl, h1⟩
  | d :: l, xs, i + 1, d', h, e => by
    obtain ⟨v, r, rfl, h1, h2⟩ := h
    obtain ⟨v', e1, e2⟩ := Rps.get (i := i) h2 (by simpa using e)
    exact ⟨v', by simpa using e1, e2⟩
theorem Rps.get' : ∀ {l : List D} {xs : List V} {i : Nat} {v : V}, Rps K bx M H l xs → xs[i]? = some v → ∃ d, l[i]? = some d ∧ Rp K bx M H d v := fun {l xs i v} h e => by
  have hi : i < l.length := by
    rw [← h.len]
    exact (List.getElem?_eq_some_iff.mp e).1
  obtain ⟨v', e1, e2⟩ := Rps.get h (List.getElem?_eq_getElem hi)
  rw [e] at e1; cases e1
  exact ⟨_, List.getElem?_eq_getElem hi, e2⟩
theorem Rps.app : ∀ {l m : List D} {xs ys : List V}, Rps K bx M H l xs → Rps K bx M H m ys → Rps K bx M H (l ++ m) (xs ++ ys)
  | [], m, xs, ys, h, h' => by rw [show xs = [] from h]; exact h'
  | d :: l, m, xs, ys, h, h' => by
    obtain ⟨v, r, rfl, h1, h2⟩ := h
    exact ⟨v, r ++ ys, rfl, h1, Rps.app h2 h'⟩
theorem Rps.take : ∀ {l : List D} {xs : List V} (n : Nat), Rps K bx M H l xs → Rps K bx M H (l.take n) (xs.take n)
  | _, _, 0, _ => rfl
  | [], xs, n + 1, h => by rw [show xs = [] from h]; rfl
  | d :: l, xs, n + 1, h => by
    obtain ⟨v, r, rfl, h1, h2⟩ := h
    exact ⟨v, r.take n, rfl, h1, Rps.take n h2⟩
theorem Rps.drop : ∀ {l : List D} {xs : List V} (n : Nat), Rps K bx M H l xs → Rps K bx M H (l.drop n) (xs.drop n)
  | _, _, 0, h => h
  | [], xs, n + 1, h => by rw [show xs = [] from h]; rfl
  | d :: l, xs, n + 1, h => by
    obtain ⟨v, r, rfl, h1, h2⟩ := h
    exact Rps.drop n h2
theorem Rps.one {d : D} {v : V} (h : Rp K bx M H d v) : Rps K bx M H [d] [v] := ⟨v, [], rfl, h, rfl⟩
theorem Rps.rev : ∀ {l : List D} {xs : List V}, Rps K bx M H l xs → Rps K bx M H l.reverse xs.reverse
  | [], xs, h => by rw [show xs = [] from h]; rfl
  | d :: l, xs, h => by
    obtain ⟨v, r, rfl, h1, h2⟩ := h
    rw [List.reverse_cons, List.reverse_cons]
    exact Rps.app (Rps.rev h2) (Rps.one h1)
theorem Rps.set : ∀ {l : List D} {xs : List V} {d : D} {v : V} (i : Nat), Rps K bx M H l xs → Rp K bx M H d v → Rps K bx M H (l.set i d) (xs.set i v)
  | [], xs, _, _, _, h, _ => by rw [show xs = [] from h]; rfl
  | d :: l, xs, d', v', 0, h, h' => by
    obtain ⟨v, r, rfl, h1, h2⟩ := h
    exact ⟨v', r, rfl, h', h2⟩
  | d :: l, xs, d', v', i + 1, h, h' => by
    obtain ⟨v, r, rfl, h1, h2⟩ := h
    exact ⟨v, r.set i v', rfl, h1, Rps.set i h2 h'⟩
theorem Rps.ints : ∀ {ns : List Int} {xs : List V}, Rps K bx M H (ns.map D.int) xs → xs = ns.map V.int
  | [], xs, h => h
  | n :: ns, xs, h => by
    obtain ⟨v, r, rfl, h1, h2⟩ := h
    rw [show v = V.int n from h1, Rps.ints h2]; rfl
theorem Rps.of_ints : ∀ (ns : List Int), Rps K bx M H (ns.map D.int) (ns.map V.int)
  | [] => rfl
  | n :: ns => ⟨_, _, rfl, rfl, Rps.of_ints ns⟩
end

structure Gm where
  K : PySem.W.Frag
  bx : List Addr
  M0 : Addr → Prop
  H0 : Hp
  Fr : List (V × D)

def RpS (G : Gm) (M : Addr → Prop) (H : Hp) : D → V → Prop
  | .own l, v => ∃ p xs, v = .ref p ∧ M p ∧ G.H0 p = none ∧ H p = some (.lst xs) ∧ Rps G.K G.bx M H l xs
  | d, v => Rp G.K G.bx M H d v

structure SR (G : Gm) (M : Addr → Prop) (σ : List (Option V)) (H : Hp) (σd : DSt) (μ : Mem) : Prop where
  len : σ.length = σd.length
  slot : ∀ (i : Nat) (d : D), σd[i]? = some (some d) → ∃ v : V, σ[i]? = some (some v) ∧ RpS G M H d v
  dist : ∀ (i j : Nat) (p : Addr) (l l' : List D), σd[i]? = some (some (.own l)) → σd[j]? = some (some (.own l')) → σ[i]? = some (some (.ref p)) → σ[j]? = some (some (.ref p)) → i = j
  blen : μ.length = G.bx.length
  box : ∀ (i : Nat) (a : Addr) (l : List D), G.bx[i]? = some a → μ[i]? = some l → ∃ xs, H a = some (.lst xs) ∧ Rps G.K G.bx M H l xs
  keep : ∀ a o, a ∉ G.bx → G.H0 a = some o → H a = some o
  m0 : ∀ a, G.M0 a → M a
  fr : ∀ p ∈ G.Fr, Rp G.K G.bx M H p.2 p.1
  mt : ∀ a, M a → ∃ o, H a = some o
  nd : G.bx.Nodup
  bm : ∀ a ∈ G.bx, G.M0 a
  m0t : ∀ a, G.M0 a → ∃ o, G.H0 a = some o

theorem RpS.of {G : Gm} {M : Addr → Prop} {H : Hp} {d : D} {v : V} (h : Rp G.K G.bx M H d v) : RpS G M H d v := by
  cases d with
  | own l => exact (show False from h).elim
  | _ => exact h
theorem RpS.stay {G : Gm} {M M' : Addr → Prop} {H H' : Hp} (k : Kp M M' H H') (hm : ∀ p l, M p → G.H0 p = none → H p = some (.lst l) → M' p ∧ H' p = some (.lst l)) : ∀ {d : D} {v : V}, RpS G M H d v → RpS G M' H' d v := fun {d v} h => by
  cases d with
  | own l =>
    obtain ⟨p, xs, e, m, h0, hp, r⟩ := h
    exact ⟨p, xs, e, (hm p xs m h0 hp).1, h0, (hm p xs m h0 hp).2, Rps.stay k _ _ r⟩
  | _ => exact Rp.stay k _ _ h

section
variable {G : Gm} {M M' : Addr → Prop} {σ : List (Option V)} {H H' : Hp} {σd : DSt} {μ : Mem} {p : Addr} {o : HO} {v : V} {d : D}
theorem SR.kpNew (S : SR G M σ H σd μ) (hp : H p = none) : Kp M M H (upd H p o) := fun a u m e => ⟨by rw [upd_ne (ne_of_none e hp)]; exact e, m⟩
/-- a new object -/
theorem SR.new (S : SR G M σ H σd μ) (hp : H p = none) : SR G M σ (upd H p o) σd μ := by
  have k : Kp M M H (upd H p o) := S.kpNew hp
  have nm : ∀ a, M a → a ≠ p := fun a m => by obtain ⟨u, e⟩ := S.mt a m; exact ne_of_none e hp
  refine ⟨S.len, fun i d e => ?_, S.dist, S.blen, fun i a l e1 e2 => ?_, fun a u h1 h2 => ?_, S.m0, fun q hq => Rp.stay k _ _ (S.fr q hq), fun a m => ?_, S.nd, S.bm, S.m0t⟩
  · obtain ⟨v, e1, r⟩ := S.slot i d e
    exact ⟨v, e1, r.stay k fun q l m _ e => ⟨m, by rw [upd_ne (nm q m)]; exact e⟩⟩
  · obtain ⟨xs, e3, r⟩ := S.box i a l e1 e2
    exact ⟨xs, by rw [upd_ne (ne_of_none e3 hp)]; exact e3, Rps.stay k _ _ r⟩
  · have := S.keep a u h1 h2
    rw [upd_ne (ne_of_none this hp)]; exact this
  · obtain ⟨u, e⟩ := S.mt a m
    exact ⟨u, by rw [upd_ne (nm a m)]; exact e⟩
theorem SR.newL (S : SR G M σ H σd μ) (hp : H p = none) {l : List D} {xs : List V} (r : Rps G.K G.bx M H l xs) : Rp G.K G.bx M (upd H p (.lst xs)) (.lst l) (.ref p) := by
  have np : ¬ M p := fun m => by obtain ⟨u, e⟩ := S.mt p m; rw [hp] at e; cases e
  exact ⟨p, xs, rfl, ⟨np, upd_same⟩, Rps.stay (S.kpNew hp) _ _ r⟩
theorem SR.newT (S : SR G M σ H σd μ) (hp : H p = none) {l : List D} {xs : List V} (r : Rps G.K G.bx M H l xs) : Rp G.K G.bx M (upd H p (.tup xs)) (.tup l) (.ref p) := by
  have np : ¬ M p := fun m => by obtain ⟨u, e⟩ := S.mt p m; rw [hp] at e; cases e
  exact ⟨p, xs, rfl, .inl ⟨np, .inl upd_same⟩, Rps.stay (S.kpNew hp) _ _ r⟩
/-- a further frozen value to be kept -/
def Gm.pin (G : Gm) (v : V) (d : D) : Gm := { G with Fr := (v, d) :: G.Fr }
def Gm.pins (G : Gm) (F : List (V × D)) : Gm := { G with Fr := F ++ G.Fr }
theorem SR.pin (S : SR G M σ H σd μ) (r : Rp G.K G.bx M H d v) : SR (G.pin v d) M σ H σd μ :=
  ⟨S.len, fun i d e => by obtain ⟨v, e1, q⟩ := S.slot i d e; exact ⟨v, e1, by cases d <;> exact q⟩, S.dist, S.blen, S.box, S.keep, S.m0, fun q hq => by
    rcases List.mem_cons.mp hq with rfl | hq
    · exact r
    · exact S.fr q hq, S.mt, S.nd, S.bm, S.m0t⟩
end
end DL

set_option maxRecDepth 100000
namespace DL
open PySem PySem.Spec L2

abbrev DTE := DSt → Mem → (D → Mem → Prop) → Prop
abbrev DTT := DSt → Mem → (Bool → Mem → Prop) → Prop
abbrev DTA := DSt → Mem → (List D → Mem → Prop) → Prop
structure DEnds where
  nx : DSt → Mem → Prop
  rt : D → Mem → Prop
  bk : DSt → Mem → Prop := fun _ _ => False
  ct : DSt → Mem → Prop := fun _ _ => False
abbrev DTS := DEnds → DSt → Mem → Prop

structure DE (X : Cx) (e : Expr) (t : DTE) : Prop where
  ex : ∃ te : TE, PE X e te ∧ ∀ (G : Gm) (M : Addr → Prop) (σ : St) (H : Hp) (σd : DSt) (μ : Mem) (Q : D → Mem → Prop) (R : VK), G.K = X.K → SR G M σ H σd μ → t σd μ Q →
    (∀ v H' d μ', SR G M σ H' σd μ' → Rp G.K G.bx M H' d v → Q d μ' → R v H') → te σ H R
structure DT (X : Cx) (e : Expr) (t : DTT) : Prop where
  ex : ∃ te : TT, PT X e te ∧ ∀ (G : Gm) (M : Addr → Prop) (σ : St) (H : Hp) (σd : DSt) (μ : Mem) (Q : Bool → Mem → Prop) (R : Bool → Hp → Prop), G.K = X.K → SR G M σ H σd μ → t σd μ Q →
    (∀ b H' μ', SR G M σ H' σd μ' → Q b μ' → R b H') → te σ H R
structure DW (X : Cx) (e : Expr) (t : DTT) : Prop where
  ex : ∃ te : TT, PW X e te ∧ ∀ (G : Gm) (M : Addr → Prop) (σ : St) (H : Hp) (σd : DSt) (μ : Mem) (Q : Bool → Mem → Prop) (R : Bool → Hp → Prop), G.K = X.K → SR G M σ H σd μ → t σd μ Q →
    (∀ b H' μ', SR G M σ H' σd μ' → Q b μ' → R b H') → te σ H R
structure DA (X : Cx) (es : List Expr) (t : DTA) : Prop where
  ex : ∃ te : TA, PA X es te ∧ ∀ (G : Gm) (M : Addr → Prop) (σ : St) (H : Hp) (σd : DSt) (μ : Mem) (Q : List D → Mem → Prop) (R : List V → Hp → Prop), G.K = X.K → SR G M σ H σd μ → t σd μ Q →
    (∀ vs H' ds μ', SR G M σ H' σd μ' → Rps G.K G.bx M H' ds vs → Q ds μ' → R vs H') → te σ H R
/-- what the ends over D and those over addresses have to do with one another -/
structure Lk (G : Gm) (De : DEnds) (E : Ends) : Prop where
  nx : ∀ M σ H σd μ, SR G M σ H σd μ → De.nx σd μ → E.nx σ H
  rt : ∀ M σ H σd μ v d, SR G M σ H σd μ → Rp G.K G.bx M H d v → De.rt d μ → E.rt v H
  bk : ∀ M σ H σd μ, SR G M σ H σd μ → De.bk σd μ → E.bk σ H
  ct : ∀ M σ H σd μ, SR G M σ H σd μ → De.ct σd μ → E.ct σ H
structure DS (X : Cx) (st : Stmt) (t : DTS) : Prop where
  ex : ∃ ts : TS, PS X st ts ∧ ∀ (G : Gm) (M : Addr → Prop) (σ : St) (H : Hp) (σd : DSt) (μ : Mem) (De : DEnds) (E : Ends), G.K = X.K → SR G M σ H σd μ → t De σd μ → Lk G De E → ts E σ H
structure DSs (X : Cx) (st : List Stmt) (t : DTS) : Prop where
  ex : ∃ ts : TS, PSs X st ts ∧ ∀ (G : Gm) (M : Addr → Prop) (σ : St) (H : Hp) (σd : DSt) (μ : Mem) (De : DEnds) (E : Ends), G.K = X.K → SR G M σ H σd μ → t De σd μ → Lk G De E → ts E σ H

theorem SR.unpin {G : Gm} {M : Addr → Prop} {σ : St} {H : Hp} {σd : DSt} {μ : Mem} {v : V} {d : D} (S : SR (G.pin v d) M σ H σd μ) : SR G M σ H σd μ ∧ Rp G.K G.bx M H d v := by
  refine ⟨⟨S.len, fun i d e => ?_, S.dist, S.blen, S.box, S.keep, S.m0, fun q hq => S.fr q (List.mem_cons_of_mem _ hq), S.mt, S.nd, S.bm, S.m0t⟩, S.fr (v, d) (List.mem_cons_self)⟩
  obtain ⟨v, e1, q⟩ := S.slot i d e
  exact ⟨v, e1, by cases d <;> exact q⟩
theorem Lk.pin {G : Gm} {De : DEnds} {E : Ends} {v : V} {d : D} (L : Lk G De E) : Lk (G.pin v d) De E :=
  ⟨fun _ _ _ _ _ S => L.nx _ _ _ _ _ S.unpin.1, fun _ _ _ _ _ _ _ S => L.rt _ _ _ _ _ _ _ S.unpin.1, fun _ _ _ _ _ S => L.bk _ _ _ _ _ S.unpin.1, fun _ _ _ _ _ S => L.ct _ _ _ _ _ S.unpin.1⟩
theorem SR.pinned {G : Gm} {M : Addr → Prop} {σ : St} {H : Hp} {σd : DSt} {μ : Mem} {v : V} {d : D} (S : SR G M σ H σd μ) (r : Rp G.K G.bx M H d v) : SR (G.pin v d) M σ H σd μ := S.pin r
def Gm.pinAll (G : Gm) : List D → List V → Gm
  | d :: ds, v :: vs => (G.pinAll ds vs).pin v d
  | _, _ => G

section
variable {X : Cx} {e a b c : Expr} {t ta tb tc : DTE} {pos : Pos}
/-! ### names, constants -/
def D.fz : D → Bool
  | .own _ => false
  | _ => true
def dVar (i : Nat) : DTE := fun σd μ Q => ∃ d : D, σd[i]? = some (some d) ∧ d.fz = true ∧ Q d μ
theorem RpS.fz {G : Gm} {M : Addr → Prop} {H : Hp} {d : D} {v : V} (h : RpS G M H d v) (z : d.fz = true) : Rp G.K G.bx M H d v := by
  cases d with
  | own l => cases z
  | _ => exact h
theorem de_pv {i : Nat} (h : PE X e (tVar i)) : DE X e (dVar i) := by
  refine ⟨_, h, fun G M σ H σd μ Q R hK S hq r => ?_⟩
  obtain ⟨d, e1, z, q⟩ := hq
  obtain ⟨v, e2, rv⟩ := S.slot i d e1
  exact ⟨v, e2, r v H d μ S (rv.fz z) q⟩
def dC (d : D) : DTE := fun _ μ Q => Q d μ
theorem de_c {v : V} {d : D} (h : PE X e (tC v)) (r : ∀ K bx M H, Rp K bx M H d v) : DE X e (dC d) :=
  ⟨_, h, fun G M σ H σd μ Q R hK S hq k => k v H d μ S (r _ _ _ _) hq⟩
theorem de_int {i : Int} {j} : DE X (.Constant (.int i) j pos) (dC (.int i)) := de_c pe_int fun _ _ _ _ => rfl
theorem de_bl {i : Bool} {j} : DE X (.Constant (.bool i) j pos) (dC (.bl i)) := de_c pe_bl fun _ _ _ _ => rfl
theorem de_non {j} : DE X (.Constant .none j pos) (dC .non) := de_c pe_non fun _ _ _ _ => rfl
theorem de_str {i : Str} {j} : DE X (.Constant (.str i) j pos) (dC (.str i)) := de_c pe_str fun _ _ _ _ => rfl

theorem rpI {K bx M H} (i : Int) : Rp K bx M H (.int i) (.int i) := rfl
theorem rpB {K bx M H} (i : Bool) : Rp K bx M H (.bl i) (.bl i) := rfl
theorem rpS {K bx M H} (i : Str) : Rp K bx M H (.str i) (.str i) := rfl
theorem rpN {K bx M H} : Rp K bx M H .non .non := rfl
/-! ### operators -/
abbrev DR2 := D → D → Mem → (D → Mem → Prop) → Prop
structure OD (X : Cx) (f : Value → Value → Sem Value) (rd : DR2) : Prop where
  ex : ∃ r : R2, OpR X f r ∧ ∀ (G : Gm) (M : Addr → Prop) (σ : St) (H : Hp) (σd : DSt) (μ : Mem) (x y : V) (dx dy : D) (Q : D → Mem → Prop) (R : VK), G.K = X.K → SR G M σ H σd μ → Rp G.K G.bx M H dx x → Rp G.K G.bx M H dy y → rd dx dy μ Q →
    (∀ v H' d μ', SR G M σ H' σd μ' → Rp G.K G.bx M H' d v → Q d μ' → R v H') → r x y H R
def dOp (rd : DR2) (ta tb : DTE) : DTE := fun σd μ Q => ta σd μ fun x μ1 => tb σd μ1 fun y μ2 => rd x y μ2 Q
theorem bin2 {te te' : TE} {rd : DR2} {r : R2}
    (ha : ∀ (G : Gm) (M : Addr → Prop) (σ : St) (H : Hp) (σd : DSt) (μ : Mem) (Q : D → Mem → Prop) (R : VK), G.K = X.K → SR G M σ H σd μ → ta σd μ Q → (∀ v H' d μ', SR G M σ H' σd μ' → Rp G.K G.bx M H' d v → Q d μ' → R v H') → te σ H R)
    (hb : ∀ (G : Gm) (M : Addr → Prop) (σ : St) (H : Hp) (σd : DSt) (μ : Mem) (Q : D → Mem → Prop) (R : VK), G.K = X.K → SR G M σ H σd μ → tb σd μ Q → (∀ v H' d μ', SR G M σ H' σd μ' → Rp G.K G.bx M H' d v → Q d μ' → R v H') → te' σ H R)
    (hr : ∀ (G : Gm) (M : Addr → Prop) (σ : St) (H : Hp) (σd : DSt) (μ : Mem) (x y : V) (dx dy : D) (Q : D → Mem → Prop) (R : VK), G.K = X.K → SR G M σ H σd μ → Rp G.K G.bx M H dx x → Rp G.K G.bx M H dy y → rd dx dy μ Q →
      (∀ v H' d μ', SR G M σ H' σd μ' → Rp G.K G.bx M H' d v → Q d μ' → R v H') → r x y H R)
    (G : Gm) (M : Addr → Prop) (σ : St) (H : Hp) (σd : DSt) (μ : Mem) (Q : D → Mem → Prop) (R : VK) (hK : G.K = X.K) (S : SR G M σ H σd μ) (hq : dOp rd ta tb σd μ Q)
    (k : ∀ v H' d μ', SR G M σ H' σd μ' → Rp G.K G.bx M H' d v → Q d μ' → R v H') : tOp r te te' σ H R := by
  refine ha G M σ H σd μ _ _ hK S hq fun v H1 d μ1 S1 r1 q1 => ?_
  refine hb (G.pin v d) M σ H1 σd μ1 _ _ hK (S1.pin r1) q1 fun v2 H2 d2 μ2 S2 r2 q2 => ?_
  obtain ⟨S2', r1'⟩ := S2.unpin
  exact hr G M σ H2 σd μ2 _ _ _ _ _ _ hK S2' r1' r2 q2 k
theorem de_op {op : Operator} {rd : DR2} (ho : OD X (binaryOp op) rd) (ha : DE X a ta) (hb : DE X b tb) : DE X (.BinOp a op b pos) (dOp rd ta tb) := by
  obtain ⟨r, ho, hr⟩ := ho.ex
  obtain ⟨te, pa, ha⟩ := ha.ex
  obtain ⟨te', pb, hb⟩ := hb.ex
  exact ⟨_, pe_op ho pa pb, bin2 ha hb hr⟩
theorem de_cmp {op : CmpOp} {rd : DR2} (ho : OD X (compareOp op) rd) (ha : DE X a ta) (hb : DE X b tb) (hm : behindInMarks op b = false) : DE X (.Compare a [op] [b] pos) (dOp rd ta tb) := by
  obtain ⟨r, ho, hr⟩ := ho.ex
  obtain ⟨te, pa, ha⟩ := ha.ex
  obtain ⟨te', pb, hb⟩ := hb.ex
  exact ⟨_, pe_cmpR ho pa pb hm, bin2 ha hb hr⟩
def dTest (t : DTE) : DTT := fun σd μ Q => t σd μ fun x μ' => ∃ k, x = .bl k ∧ Q k μ'
theorem dt_cmp {op : CmpOp} {rd : DR2} (ho : OD X (compareOp op) rd) (ha : DE X a ta) (hb : DE X b tb) (hm : behindInMarks op b = false) : DT X (.Compare a [op] [b] pos) (dTest (dOp rd ta tb)) := by
  obtain ⟨r, ho, hr⟩ := ho.ex
  obtain ⟨te, pa, ha⟩ := ha.ex
  obtain ⟨te', pb, hb⟩ := hb.ex
  refine ⟨_, pt_cmpR ho pa pb hm, fun G M σ H σd μ Q R hK S hq k => ?_⟩
  refine bin2 ha hb hr G M σ H σd μ _ _ hK S hq fun v H' d μ' S' r' q' => ?_
  obtain ⟨kb, rfl, q'⟩ := q'
  exact ⟨kb, r', k kb H' μ' S' q'⟩
theorem dt_val (h : DE X e t) (he : ∀ whole, isTrue e X.env whole = (do let v ← whole; standAt e.pos; holding [v] (truthy v)) := by intro _; rfl) : DT X e (dTest t) := by
  obtain ⟨te, pe, h⟩ := h.ex
  refine ⟨_, pt_val pe he, fun G M σ H σd μ Q R hK S hq k => ?_⟩
  refine h G M σ H σd μ _ _ hK S hq fun v H' d μ' S' r' q' => ?_
  obtain ⟨kb, rfl, q'⟩ := q'
  exact ⟨kb, r', k kb H' μ' S' q'⟩
theorem OD.or {f : Value → Value → Sem Value} {r r' : DR2} (h : OD X f r) (h' : OD X f r') : OD X f (fun x y μ Q => r x y μ Q ∨ r' x y μ Q) := by
  obtain ⟨s, o, h⟩ := h.ex
  obtain ⟨s', o', h'⟩ := h'.ex
  refine ⟨_, o.or o', fun G M σ H σd μ x y dx dy Q R hK S rx ry q k => ?_⟩
  rcases q with q | q
  · exact .inl (h G M σ H σd μ x y dx dy Q R hK S rx ry q k)
  · exact .inr (h' G M σ H σd μ x y dx dy Q R hK S rx ry q k)
def dI (C : Int → Int → Prop) (g : Int → Int → D) : DR2 := fun x y μ Q => ∃ i j, x = .int i ∧ y = .int j ∧ C i j ∧ Q (g i j) μ
def dI0 (g : Int → Int → D) : DR2 := fun x y μ Q => ∃ i j, x = .int i ∧ y = .int j ∧ Q (g i j) μ
theorem od_I {f : Value → Value → Sem Value} {C : Int → Int → Prop} {gv : Int → Int → V} {g : Int → Int → D} (h : OpR X f (rI C gv)) (hg : ∀ i j K bx M H, Rp K bx M H (g i j) (gv i j) := by intros; rfl) : OD X f (dI C g) := by
  refine ⟨_, h, fun G M σ H σd μ x y dx dy Q R hK S rx ry q k => ?_⟩
  obtain ⟨i, j, rfl, rfl, c, q⟩ := q
  exact ⟨i, j, rx, ry, c, k _ H _ μ S (hg _ _ _ _ _ _) q⟩
theorem od_I0 {f : Value → Value → Sem Value} {gv : Int → Int → V} {g : Int → Int → D} (h : OpR X f (rI0 gv)) (hg : ∀ i j K bx M H, Rp K bx M H (g i j) (gv i j) := by intros; rfl) : OD X f (dI0 g) := by
  refine ⟨_, h, fun G M σ H σd μ x y dx dy Q R hK S rx ry q k => ?_⟩
  obtain ⟨i, j, rfl, rfl, q⟩ := q
  exact ⟨i, j, rx, ry, k _ H _ μ S (hg _ _ _ _ _ _) q⟩
def dAddI : DR2 := dI0 fun i j => .int (i + j)
def dSub : DR2 := dI0 fun i j => .int (i - j)
def dMulI : DR2 := dI CMulX fun i j => .int (i * j)
/-- // by a positive divisor, where the division stays in C -/
def CDivX (i j : Int) : Prop := 0 < j ∧ Builtin.divisionGoesByPylong i j = false
theorem CDivX.of {i j : Int} (h : CDivW i j) : CDivX i j := ⟨h.1, PyProof.noPylong_of_log2 h.2⟩
theorem op_fdivX {X : Cx} : OpR X (binaryOp .FloorDiv) (rI CDivX fun i j => .int (i / j)) := opI fun i j _ _ _ _ _ hc q => by
  have h1 : (0 : Int) < j := hc.1
  exact PyProof.Rows.floordiv_int (by omega) (by rw [Int.fdiv_eq_ediv_of_nonneg i (by omega)]; exact q) (.inl hc.2)
theorem CDivX.lt {i j : Int} (j0 : 0 < j) (i0 : 0 ≤ i) (h : i < j * 2 ^ 4400) : CDivX i j := by
  refine ⟨j0, ?_⟩
  have e : Builtin.divisionGoesByPylong i j = (decide ((if (j == 0) = true then 0 else j.natAbs.log2 / 30 + 1) > 300) && decide ((if (i == 0) = true then 0 else i.natAbs.log2 / 30 + 1) > (if (j == 0) = true then 0 else j.natAbs.log2 / 30 + 1) + 150)) := rfl
  rw [e]
  by_cases hi : i = 0
  · rw [if_pos (c := (i == 0) = true) (by subst hi; decide), decide_eq_false (p := _ > _ + 150) (by omega), Bool.and_false]
  have k : i.natAbs.log2 ≤ j.natAbs.log2 + 4400 := by
    have h1 : i.natAbs < 2 ^ (j.natAbs.log2 + 1 + 4400) := by
      have e : (j * 2 ^ 4400).natAbs = j.natAbs * 2 ^ 4400 := by rw [Int.natAbs_mul, Int.natAbs_pow]; rfl
      have h2 : i.natAbs < (j * 2 ^ 4400).natAbs := by
        generalize j * 2 ^ 4400 = z at *
        omega
      rw [e] at h2
      refine Nat.lt_trans h2 ?_
      rw [Nat.pow_add]
      exact Nat.mul_lt_mul_of_pos_right Nat.lt_log2_self (Nat.pow_pos (by decide))
    have := (Nat.log2_lt (by omega : i.natAbs ≠ 0)).mpr h1
    omega
  rw [if_neg (c := (i == 0) = true) (by simpa using hi), if_neg (c := (j == 0) = true) (by simp; omega), decide_eq_false (p := _ > _ + 150) (by omega), Bool.and_false]
def dFdiv : DR2 := dI CDivX fun i j => .int (i / j)
def dFdivS : DR2 := dI CDiv fun i j => .int (i / j)
def dMod : DR2 := dI (fun _ j => 0 < j) fun i j => .int (i % j)
def dPow : DR2 := dI CPow fun i j => .int (i ^ j.toNat)
def dShl : DR2 := dI CShl fun i j => .int (i * 2 ^ j.toNat)
def dShr : DR2 := dI (fun _ j => 0 ≤ j) fun i j => .int (i / 2 ^ j.toNat)
def dAnd : DR2 := dI0 fun i j => .int (Builtin.bitAnd i j)
def dOr : DR2 := dI0 fun i j => .int (Builtin.bitOr i j)
def dLt : DR2 := dI0 fun i j => .bl (decide (i < j))
def dLe : DR2 := dI0 fun i j => .bl (decide (i ≤ j))
def dGt : DR2 := dI0 fun i j => .bl (decide (j < i))
def dGe : DR2 := dI0 fun i j => .bl (decide (j ≤ i))
theorem od_addI : OD X (binaryOp .Add) dAddI := od_I0 op_add
theorem od_sub : OD X (binaryOp .Sub) dSub := od_I0 op_sub
theorem od_mulI : OD X (binaryOp .Mult) dMulI := od_I op_mulX
theorem od_fdiv : OD X (binaryOp .FloorDiv) dFdiv := od_I op_fdivX
theorem od_fdivS : OD X (binaryOp .FloorDiv) dFdivS := od_I op_fdiv
theorem od_mod : OD X (binaryOp .Mod) dMod := od_I op_mod
theorem od_pow : OD X (binaryOp .Pow) dPow := od_I op_pow
theorem od_shl : OD X (binaryOp .LShift) dShl := od_I op_shlW
theorem od_shr : OD X (binaryOp .RShift) dShr := od_I op_shr
theorem od_and : OD X (binaryOp .BitAnd) dAnd := od_I0 op_and
theorem od_or : OD X (binaryOp .BitOr) dOr := od_I0 op_or
theorem od_lt : OD X (compareOp .Lt) dLt := od_I0 op_lt
theorem od_le : OD X (compareOp .LtE) dLe := od_I0 op_le
theorem od_gt : OD X (compareOp .Gt) dGt := od_I0 op_gt
theorem od_ge : OD X (compareOp .GtE) dGe := od_I0 op_ge
def D.isN : D → Bool
  | .non => true
  | _ => false
def dIsN : DR2 := fun x y μ Q => y = .non ∧ Q (.bl x.isN) μ
theorem rp_non {K bx M H d} {x : V} (r : Rp K bx M H d x) : decide (x = .non) = d.isN := by
  cases d with
  | non => rw [show x = .non from r]; rfl
  | bl b => rw [show x = .bl b from r]; rfl
  | int b => rw [show x = .int b from r]; rfl
  | str b => rw [show x = .str b from r]; rfl
  | tup l => obtain ⟨a, xs, rfl, _⟩ := r; rfl
  | lst l => obtain ⟨a, xs, rfl, _⟩ := r; rfl
  | frz l => obtain ⟨a, xs, rfl, _⟩ := r; rfl
  | own l => exact (show False from r).elim
  | box i => obtain ⟨a, _, rfl⟩ := r; rfl
  | ty n => rw [show x = .ty n from r]; rfl
theorem od_isN : OD X (compareOp .Is) dIsN := by
  refine ⟨_, op_isN, fun G M σ H σd μ x y dx dy Q R hK S rx ry q k => ?_⟩
  obtain ⟨rfl, q⟩ := q
  exact ⟨ry, k _ H _ μ S (by rw [rp_non rx]; rfl) q⟩
def dNotN : DR2 := fun x y μ Q => y = .non ∧ Q (.bl (!x.isN)) μ
theorem od_notN : OD X (compareOp .IsNot) dNotN := by
  refine ⟨_, op_notN, fun G M σ H σd μ x y dx dy Q R hK S rx ry q k => ?_⟩
  obtain ⟨rfl, q⟩ := q
  exact ⟨ry, k _ H _ μ S (by rw [rp_non rx]; rfl) q⟩
/-! unary -/
structure UD (X : Cx) (f : Value → Sem Value) (rd : D → Mem → (D → Mem → Prop) → Prop) : Prop where
  ex : ∃ r, UnR X f r ∧ ∀ (G : Gm) (M : Addr → Prop) (σ : St) (H : Hp) (σd : DSt) (μ : Mem) (x : V) (dx : D) (Q : D → Mem → Prop) (R : VK), G.K = X.K → SR G M σ H σd μ → Rp G.K G.bx M H dx x → rd dx μ Q →
    (∀ v H' d μ', SR G M σ H' σd μ' → Rp G.K G.bx M H' d v → Q d μ' → R v H') → r x H R
def dUn (rd : D → Mem → (D → Mem → Prop) → Prop) (ta : DTE) : DTE := fun σd μ Q => ta σd μ fun x μ1 => rd x μ1 Q
theorem de_un {op : UnaryOp} {rd} (ho : UD X (unaryOp op) rd) (ha : DE X a ta) : DE X (.UnaryOp op a pos) (dUn rd ta) := by
  obtain ⟨r, ho, hr⟩ := ho.ex
  obtain ⟨te, pa, ha⟩ := ha.ex
  refine ⟨_, pe_un ho pa, fun G M σ H σd μ Q R hK S hq k => ?_⟩
  exact ha G M σ H σd μ _ _ hK S hq fun v H1 d μ1 S1 r1 q1 => hr G M σ H1 σd μ1 _ _ _ _ hK S1 r1 q1 k
def dNeg : D → Mem → (D → Mem → Prop) → Prop := fun x μ Q => ∃ i, x = .int i ∧ Q (.int (-i)) μ
theorem ud_neg : UD X (unaryOp .USub) dNeg := by
  refine ⟨_, un_neg, fun G M σ H σd μ x dx Q R hK S rx q k => ?_⟩
  obtain ⟨i, rfl, q⟩ := q
  exact ⟨i, rx, k _ H _ μ S (rpI _) q⟩

/-! ### tests -/
def dAndT (t u : DTT) : DTT := fun σd μ Q => t σd μ fun c μ1 => if c = true then u σd μ1 Q else Q false μ1
def dOrT (t u : DTT) : DTT := fun σd μ Q => t σd μ fun c μ1 => if c = true then Q true μ1 else u σd μ1 Q
def dNotT (t : DTT) : DTT := fun σd μ Q => t σd μ fun c μ1 => Q (!c) μ1
variable {tA tB : DTT} {rest : List Expr}
theorem DW.dt (h : DW X e tA) : DT X e tA := by
  obtain ⟨te, p, h⟩ := h.ex
  exact ⟨_, p.pt, h⟩
theorem dw_and1 (ha : DT X a tA) : DW X (.BoolOp .And [a] pos) tA := by
  obtain ⟨te, p, h⟩ := ha.ex
  exact ⟨_, pw_and1 p, h⟩
theorem dw_or1 (ha : DT X a tA) : DW X (.BoolOp .Or [a] pos) tA := by
  obtain ⟨te, p, h⟩ := ha.ex
  exact ⟨_, pw_or1 p, h⟩
theorem dw_and (ha : DT X a tA) (hb : DW X (.BoolOp .And (b :: rest) pos) tB) : DW X (.BoolOp .And (a :: b :: rest) pos) (dAndT tA tB) := by
  obtain ⟨te, p, h⟩ := ha.ex
  obtain ⟨te', p', h'⟩ := hb.ex
  refine ⟨_, pw_and p p', fun G M σ H σd μ Q R hK S hq k => ?_⟩
  refine h G M σ H σd μ _ _ hK S hq fun c H1 μ1 S1 q1 => ?_
  cases c with
  | true => rw [if_pos rfl] at q1 ⊢; exact h' G M σ H1 σd μ1 _ _ hK S1 q1 k
  | false => rw [if_neg (by decide)] at q1 ⊢; exact k _ _ _ S1 q1
theorem dw_or (ha : DT X a tA) (hb : DW X (.BoolOp .Or (b :: rest) pos) tB) : DW X (.BoolOp .Or (a :: b :: rest) pos) (dOrT tA tB) := by
  obtain ⟨te, p, h⟩ := ha.ex
  obtain ⟨te', p', h'⟩ := hb.ex
  refine ⟨_, pw_or p p', fun G M σ H σd μ Q R hK S hq k => ?_⟩
  refine h G M σ H σd μ _ _ hK S hq fun c H1 μ1 S1 q1 => ?_
  cases c with
  | true => rw [if_pos rfl] at q1 ⊢; exact k _ _ _ S1 q1
  | false => rw [if_neg (by decide)] at q1 ⊢; exact h' G M σ H1 σd μ1 _ _ hK S1 q1 k
theorem dt_not (ha : DT X a tA) : DT X (.UnaryOp .Not a pos) (dNotT tA) := by
  obtain ⟨te, p, h⟩ := ha.ex
  refine ⟨_, pt_not p, fun G M σ H σd μ Q R hK S hq k => ?_⟩
  exact h G M σ H σd μ _ _ hK S hq fun c H1 μ1 S1 q1 => k _ _ _ S1 q1
def dIf (t : DTT) (ta tb : DTE) : DTE := fun σd μ Q => t σd μ fun c μ1 => if c = true then ta σd μ1 Q else tb σd μ1 Q
theorem de_ifExp (hc : DT X c tA) (ha : DE X a ta) (hb : DE X b tb) : DE X (.IfExp c a b pos) (dIf tA ta tb) := by
  obtain ⟨te, p, h⟩ := hc.ex
  obtain ⟨te1, p1, h1⟩ := ha.ex
  obtain ⟨te2, p2, h2⟩ := hb.ex
  refine ⟨_, pe_ifExp p p1 p2, fun G M σ H σd μ Q R hK S hq k => ?_⟩
  refine h G M σ H σd μ _ _ hK S hq fun c H1 μ1 S1 q1 => ?_
  cases c with
  | true => rw [if_pos rfl] at q1 ⊢; exact h1 G M σ H1 σd μ1 _ _ hK S1 q1 k
  | false => rw [if_neg (by decide)] at q1 ⊢; exact h2 G M σ H1 σd μ1 _ _ hK S1 q1 k
/-- and, or, not as values -/
def dAndV (ta tb : DTE) : DTE := fun σd μ Q => ta σd μ fun x μ1 => ∃ c, x = .bl c ∧ if c = true then tb σd μ1 Q else Q (.bl false) μ1
def dOrV (ta tb : DTE) : DTE := fun σd μ Q => ta σd μ fun x μ1 => ∃ c, x = .bl c ∧ if c = true then Q (.bl true) μ1 else tb σd μ1 Q
def dNotV (ta : DTE) : DTE := fun σd μ Q => ta σd μ fun x μ1 => ∃ c, x = .bl c ∧ Q (.bl (!c)) μ1
theorem de_one {op} (h : DE X a ta) : DE X (.BoolOp op [a] pos) ta := by
  obtain ⟨te, p, h⟩ := h.ex
  exact ⟨_, pe_one p, h⟩
theorem de_and (ha : DE X a ta) (hb : DE X (.BoolOp .And (b :: rest) pos) tb) : DE X (.BoolOp .And (a :: b :: rest) pos) (dAndV ta tb) := by
  obtain ⟨te, p, h⟩ := ha.ex
  obtain ⟨te', p', h'⟩ := hb.ex
  refine ⟨_, pe_and p p', fun G M σ H σd μ Q R hK S hq k => ?_⟩
  refine h G M σ H σd μ _ _ hK S hq fun v H1 d μ1 S1 r1 q1 => ?_
  obtain ⟨c, rfl, q1⟩ := q1
  refine ⟨c, r1, ?_⟩
  cases c with
  | true => rw [if_pos rfl] at q1 ⊢; exact h' G M σ H1 σd μ1 _ _ hK S1 q1 k
  | false => rw [if_neg (by decide)] at q1 ⊢; exact k _ _ _ _ S1 (rpB _) q1
theorem de_or (ha : DE X a ta) (hb : DE X (.BoolOp .Or (b :: rest) pos) tb) : DE X (.BoolOp .Or (a :: b :: rest) pos) (dOrV ta tb) := by
  obtain ⟨te, p, h⟩ := ha.ex
  obtain ⟨te', p', h'⟩ := hb.ex
  refine ⟨_, pe_or p p', fun G M σ H σd μ Q R hK S hq k => ?_⟩
  refine h G M σ H σd μ _ _ hK S hq fun v H1 d μ1 S1 r1 q1 => ?_
  obtain ⟨c, rfl, q1⟩ := q1
  refine ⟨c, r1, ?_⟩
  cases c with
  | true => rw [if_pos rfl] at q1 ⊢; exact k _ _ _ _ S1 (rpB _) q1
  | false => rw [if_neg (by decide)] at q1 ⊢; exact h' G M σ H1 σd μ1 _ _ hK S1 q1 k
theorem de_not (ha : DE X a ta) : DE X (.UnaryOp .Not a pos) (dNotV ta) := by
  obtain ⟨te, p, h⟩ := ha.ex
  refine ⟨_, pe_not p, fun G M σ H σd μ Q R hK S hq k => ?_⟩
  refine h G M σ H σd μ _ _ hK S hq fun v H1 d μ1 S1 r1 q1 => ?_
  obtain ⟨c, rfl, q1⟩ := q1
  exact ⟨c, r1, k _ _ _ _ S1 (rpB _) q1⟩
/-! chains a < b < c -/
def dChain (r r' : DR2) (ta tb tc : DTE) : DTE := fun σd μ Q => ta σd μ fun x μ1 => tb σd μ1 fun y μ2 => r x y μ2 fun z μ3 => ∃ k, z = .bl k ∧ if k = true then tc σd μ3 fun u μ4 => r' y u μ4 Q else Q (.bl false) μ3
theorem chain2 {te te' te'' : TE} {rd rd' : DR2} {r r' : R2}
    (ha : ∀ (G : Gm) (M : Addr → Prop) (σ : St) (H : Hp) (σd : DSt) (μ : Mem) (Q : D → Mem → Prop) (R : VK), G.K = X.K → SR G M σ H σd μ → ta σd μ Q → (∀ v H' d μ', SR G M σ H' σd μ' → Rp G.K G.bx M H' d v → Q d μ' → R v H') → te σ H R)
    (hb : ∀ (G : Gm) (M : Addr → Prop) (σ : St) (H : Hp) (σd : DSt) (μ : Mem) (Q : D → Mem → Prop) (R : VK), G.K = X.K → SR G M σ H σd μ → tb σd μ Q → (∀ v H' d μ', SR G M σ H' σd μ' → Rp G.K G.bx M H' d v → Q d μ' → R v H') → te' σ H R)
    (hc : ∀ (G : Gm) (M : Addr → Prop) (σ : St) (H : Hp) (σd : DSt) (μ : Mem) (Q : D → Mem → Prop) (R : VK), G.K = X.K → SR G M σ H σd μ → tc σd μ Q → (∀ v H' d μ', SR G M σ H' σd μ' → Rp G.K G.bx M H' d v → Q d μ' → R v H') → te'' σ H R)
    (hr : ∀ (G : Gm) (M : Addr → Prop) (σ : St) (H : Hp) (σd : DSt) (μ : Mem) (x y : V) (dx dy : D) (Q : D → Mem → Prop) (R : VK), G.K = X.K → SR G M σ H σd μ → Rp G.K G.bx M H dx x → Rp G.K G.bx M H dy y → rd dx dy μ Q →
      (∀ v H' d μ', SR G M σ H' σd μ' → Rp G.K G.bx M H' d v → Q d μ' → R v H') → r x y H R)
    (hr' : ∀ (G : Gm) (M : Addr → Prop) (σ : St) (H : Hp) (σd : DSt) (μ : Mem) (x y : V) (dx dy : D) (Q : D → Mem → Prop) (R : VK), G.K = X.K → SR G M σ H σd μ → Rp G.K G.bx M H dx x → Rp G.K G.bx M H dy y → rd' dx dy μ Q →
      (∀ v H' d μ', SR G M σ H' σd μ' → Rp G.K G.bx M H' d v → Q d μ' → R v H') → r' x y H R)
    (G : Gm) (M : Addr → Prop) (σ : St) (H : Hp) (σd : DSt) (μ : Mem) (Q : D → Mem → Prop) (R : VK) (hK : G.K = X.K) (S : SR G M σ H σd μ) (hq : dChain rd rd' ta tb tc σd μ Q)
    (k : ∀ v H' d μ', SR G M σ H' σd μ' → Rp G.K G.bx M H' d v → Q d μ' → R v H') : tChain r r' te te' te'' σ H R := by
  refine ha G M σ H σd μ _ _ hK S hq fun v H1 d μ1 S1 r1 q1 => ?_
  refine hb (G.pin v d) M σ H1 σd μ1 _ _ hK (S1.pin r1) q1 fun v2 H2 d2 μ2 S2 r2 q2 => ?_
  obtain ⟨S2', r1'⟩ := S2.unpin
  refine hr (G.pin v2 d2) M σ H2 σd μ2 _ _ _ _ _ _ hK (S2'.pin r2) r1' r2 q2 fun z H3 dz μ3 S3 r3 q3 => ?_
  obtain ⟨S3', r2'⟩ := S3.unpin
  obtain ⟨c, rfl, q3⟩ := q3
  refine ⟨c, r3, ?_⟩
  cases c with
  | false =>
    rw [if_neg (by decide)] at q3 ⊢
    exact k _ _ _ _ S3' (rpB _) q3
  | true =>
    rw [if_pos rfl] at q3 ⊢
    refine hc (G.pin v2 d2) M σ H3 σd μ3 _ _ hK (S3'.pin r2') q3 fun u H4 du μ4 S4 r4 q4 => ?_
    obtain ⟨S4', r2''⟩ := S4.unpin
    exact hr' G M σ H4 σd μ4 _ _ _ _ _ _ hK S4' r2'' r4 q4 k
theorem de_chain {op op' : CmpOp} {r r' : DR2} (ho : OD X (compareOp op) r) (ho' : OD X (compareOp op') r') (ha : DE X a ta) (hb : DE X b tb) (hc : DE X c tc)
    (hm : lastMarks [op, op'] [b, c] = false := by with_unfolding_all rfl) : DE X (.Compare a [op, op'] [b, c] pos) (dChain r r' ta tb tc) := by
  obtain ⟨s, ho, hr⟩ := ho.ex
  obtain ⟨s', ho', hr'⟩ := ho'.ex
  obtain ⟨te, pa, ha⟩ := ha.ex
  obtain ⟨te', pb, hb⟩ := hb.ex
  obtain ⟨te'', pc, hc⟩ := hc.ex
  exact ⟨_, pe_chain ho ho' pa pb pc hm, chain2 ha hb hc hr hr'⟩
theorem dt_chain {op op' : CmpOp} {r r' : DR2} (ho : OD X (compareOp op) r) (ho' : OD X (compareOp op') r') (ha : DE X a ta) (hb : DE X b tb) (hc : DE X c tc)
    (hm : lastMarks [op, op'] [b, c] = false := by with_unfolding_all rfl) : DT X (.Compare a [op, op'] [b, c] pos) (dTest (dChain r r' ta tb tc)) := by
  obtain ⟨s, ho, hr⟩ := ho.ex
  obtain ⟨s', ho', hr'⟩ := ho'.ex
  obtain ⟨te, pa, ha⟩ := ha.ex
  obtain ⟨te', pb, hb⟩ := hb.ex
  obtain ⟨te'', pc, hc⟩ := hc.ex
  refine ⟨_, pt_chain ho ho' pa pb pc hm, fun G M σ H σd μ Q R hK S hq k => ?_⟩
  refine chain2 ha hb hc hr hr' G M σ H σd μ _ _ hK S hq fun v H' d μ' S' r' q' => ?_
  obtain ⟨kb, rfl, q'⟩ := q'
  exact ⟨kb, r', k kb H' μ' S' q'⟩

/-! ### argument lists, displays, calls of built-ins -/
def dNil : DTA := fun _ μ Q => Q [] μ
def dCons (ta : DTE) (tr : DTA) : DTA := fun σd μ Q => ta σd μ fun x μ1 => tr σd μ1 fun xs μ2 => Q (x :: xs) μ2
variable {es : List Expr} {tr : DTA}
theorem da_nil : DA X [] dNil := ⟨_, pa_nil, fun G M σ H σd μ Q R hK S hq k => k [] H [] μ S rfl hq⟩
theorem da_cons (ha : DE X e t) (hr : DA X es tr) (hs : starEach (e :: es) X.env = (false, eval e X.env) :: starEach es X.env := by rfl) : DA X (e :: es) (dCons t tr) := by
  obtain ⟨te, p, h⟩ := ha.ex
  obtain ⟨te', p', h'⟩ := hr.ex
  refine ⟨_, pa_cons p p' hs, fun G M σ H σd μ Q R hK S hq k => ?_⟩
  refine h G M σ H σd μ _ _ hK S hq fun v H1 d μ1 S1 r1 q1 => ?_
  refine h' (G.pin v d) M σ H1 σd μ1 _ _ hK (S1.pin r1) q1 fun vs H2 ds μ2 S2 r2 q2 => ?_
  obtain ⟨S2', r1'⟩ := S2.unpin
  exact k _ _ (d :: ds) μ2 S2' ⟨v, vs, rfl, r1', r2⟩ q2
def dTup (t : DTA) : DTE := fun σd μ Q => t σd μ fun ds μ1 => ds.length ≤ sizeLine ∧ Q (.tup ds) μ1
def dLst (t : DTA) : DTE := fun σd μ Q => t σd μ fun ds μ1 => ds.length ≤ sizeLine ∧ Q (.lst ds) μ1
theorem de_tup {x1} (h : DA X es tr) : DE X (.Tuple es x1 pos) (dTup tr) := by
  obtain ⟨te, p, h⟩ := h.ex
  refine ⟨_, pe_tup p, fun G M σ H σd μ Q R hK S hq k => ?_⟩
  refine h G M σ H σd μ _ _ hK S hq fun vs H1 ds μ1 S1 r1 q1 => ?_
  exact ⟨by rw [r1.len]; exact q1.1, fun p hp => k _ _ _ _ (S1.new hp) (S1.newT hp r1) q1.2⟩
theorem de_lst (h : DA X es tr) : DE X (.List es pos) (dLst tr) := by
  obtain ⟨te, p, h⟩ := h.ex
  refine ⟨_, pe_lst p, fun G M σ H σd μ Q R hK S hq k => ?_⟩
  refine h G M σ H σd μ _ _ hK S hq fun vs H1 ds μ1 S1 r1 q1 => ?_
  exact ⟨by rw [r1.len]; exact q1.1, fun p hp => k _ _ _ _ (S1.new hp) (S1.newL hp r1) q1.2⟩
abbrev DRC := List D → Mem → (D → Mem → Prop) → Prop
structure CD (X : Cx) (f : Value) (rd : DRC) : Prop where
  ex : ∃ r, CallR X f r ∧ ∀ (G : Gm) (M : Addr → Prop) (σ : St) (H : Hp) (σd : DSt) (μ : Mem) (xs : List V) (ds : List D) (Q : D → Mem → Prop) (R : VK), G.K = X.K → SR G M σ H σd μ → Rps G.K G.bx M H ds xs → rd ds μ Q →
    (∀ v H' d μ', SR G M σ H' σd μ' → Rp G.K G.bx M H' d v → Q d μ' → R v H') → r xs H R
def dCB (rd : DRC) (t : DTA) : DTE := fun σd μ Q => t σd μ fun ds μ1 => rd ds μ1 Q
variable {x : Str} {p : Pos} {id T : String} {rd : DRC}
theorem de_callB (hc : CD X (.builtin id) rd) (hg : Gl X x) (hm : X.mg x = none) (hv : bootBuiltins x = some (.builtin id)) (ha : DA X (e :: es) tr) (hn : x ≠ "__name__" := by decide) (hdb : (x == ("__debug__" : Str)) = false := by decide)
    (he : starEach (e :: es) X.env = (false, eval e X.env) :: starEach es X.env := by rfl) (hpl : (backTo pos (starEach es X.env)).any (·.1) = false := by rfl) : DE X (.Call (.Name x p) (e :: es) [] pos) (dCB rd tr) := by
  obtain ⟨r, hc, hr⟩ := hc.ex
  obtain ⟨te, p, h⟩ := ha.ex
  refine ⟨_, pe_callB hc hg hm hv p hn hdb he hpl, fun G M σ H σd μ Q R hK S hq k => ?_⟩
  exact h G M σ H σd μ _ _ hK S hq fun vs H1 ds μ1 S1 r1 q1 => hr G M σ H1 σd μ1 _ _ _ _ hK S1 r1 q1 k
theorem de_callTy (hc : CD X (.type T) rd) (hg : Gl X x) (hm : X.mg x = none) (hv : bootBuiltins x = some (.type T)) (ha : DA X (e :: es) tr) (hn : x ≠ "__name__" := by decide) (hdb : (x == ("__debug__" : Str)) = false := by decide)
    (he : starEach (e :: es) X.env = (false, eval e X.env) :: starEach es X.env := by rfl) (hpl : (backTo pos (starEach es X.env)).any (·.1) = false := by rfl) : DE X (.Call (.Name x p) (e :: es) [] pos) (dCB rd tr) := by
  obtain ⟨r, hc, hr⟩ := hc.ex
  obtain ⟨te, p, h⟩ := ha.ex
  refine ⟨_, pe_callTy hc hg hm hv p hn hdb he hpl, fun G M σ H σd μ Q R hK S hq k => ?_⟩
  exact h G M σ H σd μ _ _ hK S hq fun vs H1 ds μ1 S1 r1 q1 => hr G M σ H1 σd μ1 _ _ _ _ hK S1 r1 q1 k
theorem CD.or {f : Value} {r r' : DRC} (h : CD X f r) (h' : CD X f r') : CD X f (fun x μ Q => r x μ Q ∨ r' x μ Q) := by
  obtain ⟨s, o, h⟩ := h.ex
  obtain ⟨s', o', h'⟩ := h'.ex
  refine ⟨_, o.or o', fun G M σ H σd μ x dx Q R hK S rx q k => ?_⟩
  rcases q with q | q
  · exact .inl (h G M σ H σd μ x dx Q R hK S rx q k)
  · exact .inr (h' G M σ H σd μ x dx Q R hK S rx q k)
theorem rps1 {K bx M H d} {xs : List V} (h : Rps K bx M H [d] xs) : ∃ v, xs = [v] ∧ Rp K bx M H d v := by
  obtain ⟨v, r, rfl, h1, h2⟩ := h
  cases (show r = [] from h2)
  exact ⟨v, rfl, h1⟩
theorem rps2 {K bx M H d d'} {xs : List V} (h : Rps K bx M H [d, d'] xs) : ∃ v v', xs = [v, v'] ∧ Rp K bx M H d v ∧ Rp K bx M H d' v' := by
  obtain ⟨v, r, rfl, h1, h2⟩ := h
  obtain ⟨v', rfl, h3⟩ := rps1 h2
  exact ⟨v, v', rfl, h1, h3⟩
def dAbs : DRC := fun ds μ Q => ∃ i, ds = [.int i] ∧ Q (.int (if i < 0 then -i else i)) μ
theorem cd_abs : CD X (.builtin "abs") dAbs := by
  refine ⟨_, call_abs, fun G M σ H σd μ xs ds Q R hK S r q k => ?_⟩
  obtain ⟨i, rfl, q⟩ := q
  obtain ⟨v, rfl, r1⟩ := rps1 r
  exact ⟨i, by rw [show v = .int i from r1], k _ _ _ _ S (rpI _) q⟩
def dMax2 : DRC := fun ds μ Q => ∃ i j, ds = [.int i, .int j] ∧ Q (.int (if j > i then j else i)) μ
theorem cd_max2 (hc : X.calm = true) : CD X (.builtin "max") dMax2 := by
  refine ⟨_, call_max2 hc, fun G M σ H σd μ xs ds Q R hK S r q k => ?_⟩
  obtain ⟨i, j, rfl, q⟩ := q
  obtain ⟨v, v', rfl, r1, r2⟩ := rps2 r
  exact ⟨i, j, by rw [show v = .int i from r1, show v' = .int j from r2], k _ _ _ _ S (rpI _) q⟩
def dMin2 : DRC := fun ds μ Q => ∃ i j, ds = [.int i, .int j] ∧ Q (.int (if j < i then j else i)) μ
theorem cd_min2 (hc : X.calm = true) : CD X (.builtin "min") dMin2 := by
  refine ⟨_, call_min2 hc, fun G M σ H σd μ xs ds Q R hK S r q k => ?_⟩
  obtain ⟨i, j, rfl, q⟩ := q
  obtain ⟨v, v', rfl, r1, r2⟩ := rps2 r
  exact ⟨i, j, by rw [show v = .int i from r1, show v' = .int j from r2], k _ _ _ _ S (rpI _) q⟩
def dInt1 : DRC := fun ds μ Q => (∃ i, ds = [.int i] ∧ Q (.int i) μ) ∨ ∃ k, ds = [.bl k] ∧ Q (.int (if k then 1 else 0)) μ
theorem cd_int : CD X (.type "int") dInt1 := by
  refine ⟨_, call_int1, fun G M σ H σd μ xs ds Q R hK S r q k => ?_⟩
  rcases q with ⟨i, rfl, q⟩ | ⟨i, rfl, q⟩
  · obtain ⟨v, rfl, r1⟩ := rps1 r
    exact .inl ⟨i, by rw [show v = .int i from r1], k _ _ _ _ S (rpI _) q⟩
  · obtain ⟨v, rfl, r1⟩ := rps1 r
    exact .inr ⟨i, by rw [show v = .bl i from r1], k _ _ _ _ S (rpI _) q⟩
/-- the items of what is a list or a tuple -/
def seqOf (μ : Mem) : D → Option (List D)
  | .lst l => some l
  | .frz l => some l
  | .tup l => some l
  | .box i => μ[i]?
  | _ => none
def lstOf (μ : Mem) : D → Option (List D)
  | .lst l => some l
  | .frz l => some l
  | .box i => μ[i]?
  | _ => none
/-- .. of a list that is tracked as such -/
def rawOf (μ : Mem) : D → Option (List D)
  | .lst l => some l
  | .box i => μ[i]?
  | _ => none
theorem sq_box {G : Gm} {M σ H σd μ} {i : Nat} {l : List D} {v : V} (S : SR G M σ H σd μ) (r : Rp G.K G.bx M H (.box i) v) (e : μ[i]? = some l) : ∃ a xs, v = .ref a ∧ G.bx[i]? = some a ∧ H a = some (.lst xs) ∧ Rps G.K G.bx M H l xs := by
  obtain ⟨a, e1, rfl⟩ := r
  obtain ⟨xs, h1, h2⟩ := S.box i a l e1 e
  exact ⟨a, xs, rfl, e1, h1, h2⟩
theorem sq_lst {G : Gm} {M σ H σd μ} {d : D} {l : List D} {v : V} (S : SR G M σ H σd μ) (r : Rp G.K G.bx M H d v) (e : lstOf μ d = some l) : ∃ a xs, v = .ref a ∧ SqL G.K H a xs ∧ Rps G.K G.bx M H l xs := by
  cases d with
  | lst l' =>
    obtain rfl : l' = l := Option.some.inj e
    obtain ⟨a, xs, rfl, o, r⟩ := r
    exact ⟨a, xs, rfl, o.sq, r⟩
  | frz l' =>
    obtain rfl : l' = l := Option.some.inj e
    obtain ⟨a, xs, rfl, o, r⟩ := r
    exact ⟨a, xs, rfl, o.sq, r⟩
  | box i =>
    obtain ⟨a, xs, rfl, _, h1, h2⟩ := sq_box S r e
    exact ⟨a, xs, rfl, SqL.of h1, h2⟩
  | _ => cases e
theorem sq_raw {G : Gm} {M σ H σd μ} {d : D} {l : List D} {v : V} (S : SR G M σ H σd μ) (r : Rp G.K G.bx M H d v) (e : rawOf μ d = some l) : ∃ a xs, v = .ref a ∧ H a = some (.lst xs) ∧ Rps G.K G.bx M H l xs := by
  cases d with
  | lst l' =>
    obtain rfl : l' = l := Option.some.inj e
    obtain ⟨a, xs, rfl, o, r⟩ := r
    exact ⟨a, xs, rfl, o.2, r⟩
  | box i =>
    obtain ⟨a, xs, rfl, _, h1, h2⟩ := sq_box S r e
    exact ⟨a, xs, rfl, h1, h2⟩
  | _ => cases e
theorem sq_seq {G : Gm} {M σ H σd μ} {d : D} {l : List D} {v : V} (S : SR G M σ H σd μ) (r : Rp G.K G.bx M H d v) (e : seqOf μ d = some l) : ∃ a xs, v = .ref a ∧ (SqL G.K H a xs ∨ SqT G.K H a xs) ∧ Rps G.K G.bx M H l xs := by
  cases d with
  | tup l' =>
    obtain rfl : l' = l := Option.some.inj e
    obtain ⟨a, xs, rfl, o, r⟩ := r
    exact ⟨a, xs, rfl, .inr o.sq, r⟩
  | lst l' =>
    obtain ⟨a, xs, h1, h2, h3⟩ := sq_lst S r (l := l) e
    exact ⟨a, xs, h1, .inl h2, h3⟩
  | frz l' =>
    obtain ⟨a, xs, h1, h2, h3⟩ := sq_lst S r (l := l) e
    exact ⟨a, xs, h1, .inl h2, h3⟩
  | box i =>
    obtain ⟨a, xs, h1, h2, h3⟩ := sq_lst S r (l := l) e
    exact ⟨a, xs, h1, .inl h2, h3⟩
  | _ => cases e
def dLen : DRC := fun ds μ Q => ∃ d l, ds = [d] ∧ seqOf μ d = some l ∧ Q (.int l.length) μ
theorem cd_len : CD X (.builtin "len") dLen := by
  refine ⟨_, call_len_seq, fun G M σ H σd μ xs ds Q R hK S r q k => ?_⟩
  obtain ⟨d, l, rfl, e, q⟩ := q
  obtain ⟨v, rfl, r1⟩ := rps1 r
  obtain ⟨a, xs, rfl, h, r'⟩ := sq_seq S r1 e
  rw [hK] at h
  exact ⟨a, xs, rfl, h, by rw [r'.len]; exact k _ _ _ _ S (rpI _) q⟩
end
end DL

set_option maxRecDepth 100000
namespace DL
open PySem PySem.Spec L2
section
variable {X : Cx} {e a b c : Expr} {t ta tb tc : DTE} {pos : Pos}
/-! ### subscripts -/
structure ID (X : Cx) (rd : DR2) : Prop where
  ex : ∃ r : R2, IxR X r ∧ ∀ (G : Gm) (M : Addr → Prop) (σ : St) (H : Hp) (σd : DSt) (μ : Mem) (x y : V) (dx dy : D) (Q : D → Mem → Prop) (R : VK), G.K = X.K → SR G M σ H σd μ → Rp G.K G.bx M H dx x → Rp G.K G.bx M H dy y → rd dx dy μ Q →
    (∀ v H' d μ', SR G M σ H' σd μ' → Rp G.K G.bx M H' d v → Q d μ' → R v H') → r x y H R
theorem de_ix {rd : DR2} (hr : ID X rd) (ha : DE X a ta) (hb : DE X b tb) (hs : PlainIx b := by exact fun _ _ => rfl) : DE X (.Subscript a b pos) (dOp rd ta tb) := by
  obtain ⟨r, ho, hr⟩ := hr.ex
  obtain ⟨te, pa, ha⟩ := ha.ex
  obtain ⟨te', pb, hb⟩ := hb.ex
  exact ⟨_, pe_ix ho pa pb hs, bin2 ha hb hr⟩
def dIx : DR2 := fun x y μ Q => ∃ l i d, seqOf μ x = some l ∧ y = .int i ∧ atI l i = some d ∧ Q d μ
theorem Rps.atI {K bx M H} {l : List D} {xs : List V} {i : Int} {d : D} (r : Rps K bx M H l xs) (e : L2.atI l i = some d) : ∃ v, L2.atI xs i = some v ∧ Rp K bx M H d v := by
  unfold L2.atI at e ⊢
  rw [r.len]
  cases q : ixN l.length i with
  | none => rw [q] at e; cases e
  | some j =>
    rw [q] at e
    exact r.get e
theorem id_ix : ID X dIx := by
  refine ⟨_, ix_list.or ix_tup, fun G M σ H σd μ x y dx dy Q R hK S rx ry q k => ?_⟩
  obtain ⟨l, i, d, e, rfl, e2, q⟩ := q
  obtain ⟨a, xs, rfl, h, r⟩ := sq_seq S rx e
  obtain ⟨v, e3, rv⟩ := r.atI e2
  rw [hK] at h
  rcases h with h | h
  · exact .inl ⟨a, xs, i, v, rfl, ry, h, e3, k _ _ _ _ S rv q⟩
  · exact .inr ⟨a, xs, i, v, rfl, ry, h, e3, k _ _ _ _ S rv q⟩
/-! ### slices -/
def cutD (xs : List D) (lo hi : Option Int) : List D := (xs.drop (HT.sIx xs.length 0 lo)).take (HT.sIx xs.length xs.length hi - HT.sIx xs.length 0 lo)
theorem Rps.cut {K bx M H} {l : List D} {xs : List V} (r : Rps K bx M H l xs) (lo hi : Option Int) : Rps K bx M H (cutD l lo hi) (cutV xs lo hi) := by
  unfold cutD cutV
  rw [r.len]
  exact (r.drop _).take _
abbrev DTO := DSt → Mem → (Option Int → Mem → Prop) → Prop
structure DO (X : Cx) (e : Option Expr) (t : DTO) : Prop where
  ex : ∃ te : TO, PO X e te ∧ ∀ (G : Gm) (M : Addr → Prop) (σ : St) (H : Hp) (σd : DSt) (μ : Mem) (Q : Option Int → Mem → Prop) (R : Option Int → Hp → Prop), G.K = X.K → SR G M σ H σd μ → t σd μ Q →
    (∀ b H' μ', SR G M σ H' σd μ' → Q b μ' → R b H') → te σ H R
def dNoPart : DTO := fun _ μ Q => Q none μ
def dPart (t : DTE) : DTO := fun σd μ Q => t σd μ fun x μ1 => ∃ i, x = .int i ∧ Q (some i) μ1
theorem do_none : DO X none dNoPart := ⟨_, po_none, fun G M σ H σd μ Q R hK S hq k => k _ _ _ S hq⟩
theorem do_some (h : DE X e t) : DO X (some e) (dPart t) := by
  obtain ⟨te, p, h⟩ := h.ex
  refine ⟨_, po_some p, fun G M σ H σd μ Q R hK S hq k => ?_⟩
  refine h G M σ H σd μ _ _ hK S hq fun v H1 d μ1 S1 r1 q1 => ?_
  obtain ⟨i, rfl, q1⟩ := q1
  exact ⟨i, r1, k _ _ _ S1 q1⟩
/-- the slice of what is a list (a new list), of a tuple (a tuple) -/
def dSl (te : DTE) (tl th : DTO) : DTE := fun σd μ Q => te σd μ fun x μ1 => tl σd μ1 fun l μ2 => th σd μ2 fun u μ3 => (∃ ds, lstOf μ3 x = some ds ∧ Q (.lst (cutD ds l u)) μ3) ∨ (∃ ds, x = .tup ds ∧ Q (.tup (cutD ds l u)) μ3)
theorem cut_all (xs : List V) (lo hi : Option Int) (h : HT.sIx xs.length 0 lo = 0 ∧ HT.sIx xs.length xs.length hi = xs.length) : cutV xs lo hi = xs := by
  unfold cutV
  rw [h.1, h.2, List.drop_zero, Nat.sub_zero, List.take_length]
theorem cutD_all (xs : List D) (lo hi : Option Int) (h : HT.sIx xs.length 0 lo = 0 ∧ HT.sIx xs.length xs.length hi = xs.length) : cutD xs lo hi = xs := by
  unfold cutD
  rw [h.1, h.2, List.drop_zero, Nat.sub_zero, List.take_length]
variable {lo hi : Option Expr} {tl th : DTO} {p2 : Pos}
theorem de_slice (he : DE X e t) (hl : DO X lo tl) (hu : DO X hi th) : DE X (.Subscript e (.Slice lo hi none p2) pos) (dSl t tl th) := by
  obtain ⟨te, p, he⟩ := he.ex
  obtain ⟨te1, p1, hl⟩ := hl.ex
  obtain ⟨te2, p2, hu⟩ := hu.ex
  refine ⟨_, pe_slice (sl_list.or sl_tupA) p p1 p2, fun G M σ H σd μ Q R hK S hq k => ?_⟩
  refine he G M σ H σd μ _ _ hK S hq fun v H1 d μ1 S1 r1 q1 => ?_
  refine hl (G.pin v d) M σ H1 σd μ1 _ _ hK (S1.pin r1) q1 fun b H2 μ2 S2 q2 => ?_
  refine hu (G.pin v d) M σ H2 σd μ2 _ _ hK S2 q2 fun u H3 μ3 S3 q3 => ?_
  obtain ⟨S3', r⟩ := S3.unpin
  rcases q3 with ⟨ds, e, q⟩ | ⟨ds, rfl, q⟩
  · obtain ⟨a, xs, rfl, h, rs⟩ := sq_lst S3' r e
    rw [hK] at h
    exact .inl ⟨a, xs, rfl, h, fun p hp => k _ _ _ _ (S3'.new hp) (S3'.newL hp (rs.cut _ _)) q⟩
  · obtain ⟨a, xs, rfl, h, rs⟩ := r
    refine .inr ⟨a, xs, rfl, by rw [← hK]; exact h.sq, fun hw => ?_, fun hw p hp => k _ _ _ _ (S3'.new hp) (S3'.newT hp (rs.cut _ _)) q⟩
    rw [cutD_all _ _ _ (by rw [← rs.len]; exact hw)] at q
    exact k (.ref a) H3 (.tup ds) μ3 S3' ⟨a, xs, rfl, h, rs⟩ q
/-- xs[::-1] of a list -/
def dRevL (t : DTE) : DTE := fun σd μ Q => t σd μ fun x μ1 => ∃ ds, lstOf μ1 x = some ds ∧ Q (.lst ds.reverse) μ1
theorem de_revL {k : Nat} {p1 p2 p3 : Pos} (he : DE X e t) : DE X (.Subscript e (.Slice none none (some (.UnaryOp .USub (.Constant (.int 1) k p1) p2)) p3) pos) (dRevL t) := by
  obtain ⟨te, p, he⟩ := he.ex
  refine ⟨_, pe_revL p, fun G M σ H σd μ Q R hK S hq k => ?_⟩
  refine he G M σ H σd μ _ _ hK S hq fun v H1 d μ1 S1 r1 q1 => ?_
  obtain ⟨ds, e, q⟩ := q1
  obtain ⟨a, xs, rfl, h, rs⟩ := sq_lst S1 r1 e
  rw [hK] at h
  exact ⟨a, xs, rfl, h, fun p hp => k _ _ _ _ (S1.new hp) (S1.newL hp rs.rev) q⟩
/-! ### + and * of sequences -/
def dCatL : DR2 := fun x y μ Q => ∃ l m, rawOf μ x = some l ∧ rawOf μ y = some m ∧ l.length + m.length ≤ sizeLine ∧ Q (.lst (l ++ m)) μ
theorem od_catL : OD X (binaryOp .Add) dCatL := by
  refine ⟨_, op_cat, fun G M σ H σd μ x y dx dy Q R hK S rx ry q k => ?_⟩
  obtain ⟨l, m, e1, e2, z, q⟩ := q
  obtain ⟨a, xs, rfl, h1, r1⟩ := sq_raw S rx e1
  obtain ⟨b, ys, rfl, h2, r2⟩ := sq_raw S ry e2
  exact ⟨a, b, xs, ys, rfl, rfl, h1, h2, by rw [r1.len, r2.len]; exact z, fun p hp => k _ _ _ _ (S.new hp) (S.newL hp (r1.app r2)) q⟩
def dCatT : DR2 := fun x y μ Q => ∃ l m, x = .tup l ∧ y = .tup m ∧ l.length + m.length ≤ sizeLine ∧ Q (.tup (l ++ m)) μ
theorem od_catT : OD X (binaryOp .Add) dCatT := by
  refine ⟨_, op_catA, fun G M σ H σd μ x y dx dy Q R hK S rx ry q k => ?_⟩
  obtain ⟨l, m, rfl, rfl, z, q⟩ := q
  obtain ⟨a, xs, rfl, h1, r1⟩ := rx
  obtain ⟨b, ys, rfl, h2, r2⟩ := ry
  refine ⟨a, b, xs, ys, rfl, rfl, by rw [← hK]; exact h1.sq, by rw [← hK]; exact h2.sq, by rw [r1.len, r2.len]; exact z, fun e => ?_, fun _ e => ?_, fun _ _ p hp => k _ _ _ _ (S.new hp) (S.newT hp (r1.app r2)) q⟩
  · subst e
    have : l = [] := List.length_eq_zero_iff.mp (by rw [← r1.len]; rfl)
    subst this
    exact k (.ref b) H (.tup m) μ S ⟨b, ys, rfl, h2, r2⟩ q
  · subst e
    have : m = [] := List.length_eq_zero_iff.mp (by rw [← r2.len]; rfl)
    subst this
    rw [List.append_nil] at q
    exact k (.ref a) H (.tup l) μ S ⟨a, xs, rfl, h1, r1⟩ q
def dCatS : DR2 := fun x y μ Q => ∃ i j, x = .str i ∧ y = .str j ∧ i.length + j.length ≤ sizeLine ∧ Q (.str (i ++ j)) μ
theorem od_catS : OD X (binaryOp .Add) dCatS := by
  refine ⟨_, op_add_str, fun G M σ H σd μ x y dx dy Q R hK S rx ry q k => ?_⟩
  obtain ⟨i, j, rfl, rfl, z, q⟩ := q
  exact ⟨i, j, rx, ry, z, k _ _ _ _ S (rpS _) q⟩
def dAdd : DR2 := fun x y μ Q => dAddI x y μ Q ∨ dCatL x y μ Q ∨ dCatT x y μ Q
theorem od_add : OD X (binaryOp .Add) dAdd := od_addI.or (od_catL.or od_catT)
theorem Rps.rep {K bx M H} {l : List D} {xs : List V} (r : Rps K bx M H l xs) : ∀ k : Nat, Rps K bx M H (List.replicate k l).flatten (List.replicate k xs).flatten
  | 0 => rfl
  | k + 1 => by
    rw [List.replicate_succ, List.replicate_succ, List.flatten_cons, List.flatten_cons]
    exact r.app (Rps.rep r k)
def dRepL : DR2 := fun x y μ Q => ∃ l k, rawOf μ x = some l ∧ y = .int k ∧ -(2 ^ 63) ≤ k ∧ k < 2 ^ 63 ∧ l.length * k.toNat ≤ sizeLine ∧ Q (.lst (List.replicate k.toNat l).flatten) μ
theorem od_repL : OD X (binaryOp .Mult) dRepL := by
  refine ⟨_, op_rep, fun G M σ H σd μ x y dx dy Q R hK S rx ry q k => ?_⟩
  obtain ⟨l, n, e1, rfl, z1, z2, z3, q⟩ := q
  obtain ⟨a, xs, rfl, h1, r1⟩ := sq_raw S rx e1
  exact ⟨a, n, xs, rfl, ry, h1, z1, z2, by rw [r1.len]; exact z3, fun p hp => k _ _ _ _ (S.new hp) (S.newL hp (r1.rep _)) q⟩
def dMul : DR2 := fun x y μ Q => dMulI x y μ Q ∨ dRepL x y μ Q
theorem od_mul : OD X (binaryOp .Mult) dMul := od_mulI.or od_repL
/-! ### data -/
mutual
def D.py : D → PyData
  | .non => .none
  | .bl b => .bool b
  | .int i => .int i
  | .str x => .str x
  | .tup l => .tuple (pys l)
  | .lst l => .list (pys l)
  | .own _ => .none
  | .frz l => .list (pys l)
  | .box _ => .none
  | .ty _ => .none
def pys : List D → List PyData
  | [] => []
  | d :: l => d.py :: pys l
end
mutual
/-- no boxes in it -/
def D.flat : D → Bool
  | .non => true
  | .bl _ => true
  | .int _ => true
  | .str _ => true
  | .tup l => flats l
  | .lst l => flats l
  | .own _ => false
  | .frz l => flats l
  | .box _ => false
  | .ty _ => false
def flats : List D → Bool
  | [] => true
  | d :: l => d.flat && flats l
end
mutual
theorem Rp.dp {K bx M H} : ∀ (d : D) (v : V), Rp K bx M H d v → d.flat = true → Dp K H v d.py
  | .non, v, h, _ => by rw [show v = .non from h]; exact .non
  | .bl b, v, h, _ => by rw [show v = .bl b from h]; exact .bl b
  | .int b, v, h, _ => by rw [show v = .int b from h]; exact .int b
  | .str b, v, h, _ => by rw [show v = .str b from h]; exact .str b
  | .tup l, v, h, f => by
    obtain ⟨a, xs, rfl, o, r⟩ := h
    exact .tup o.sq (Rps.dp l xs r f)
  | .lst l, v, h, f => by
    obtain ⟨a, xs, rfl, o, r⟩ := h
    exact .lst o.sq (Rps.dp l xs r f)
  | .frz l, v, h, f => by
    obtain ⟨a, xs, rfl, o, r⟩ := h
    exact .lst o.sq (Rps.dp l xs r f)
  | .own l, v, h, f => nomatch f
  | .box l, v, h, f => nomatch f
  | .ty l, v, h, f => nomatch f
theorem Rps.dp {K bx M H} : ∀ (l : List D) (xs : List V), Rps K bx M H l xs → flats l = true → DpAll K H xs (pys l)
  | [], xs, h, _ => by rw [show xs = [] from h]; exact .nil
  | d :: l, xs, h, f => by
    obtain ⟨v, r, rfl, h1, h2⟩ := h
    simp only [flats, Bool.and_eq_true] at f
    exact .cons (Rp.dp d v h1 f.1) (Rps.dp l r h2 f.2)
end
def D.ok (d : D) : Prop := d.flat = true ∧ SeqAt.shaped d.py = true
def D.eqv (d e : D) : Bool := PyData.eqv d.py e.py
def dEq : DR2 := fun x y μ Q => (x.ok ∧ y.ok ∧ Q (.bl (x.eqv y)) μ) ∨ ∃ s t, x = .str s ∧ y = .str t ∧ Q (.bl (decide (s = t))) μ
def dNe : DR2 := fun x y μ Q => (x.ok ∧ y.ok ∧ Q (.bl (!x.eqv y)) μ) ∨ ∃ s t, x = .str s ∧ y = .str t ∧ Q (.bl (!decide (s = t))) μ
theorem v_str {s t : Str} : decide (V.str s = V.str t) = decide (s = t) := by
  by_cases h : s = t
  · subst h; simp
  · rw [decide_eq_false h, decide_eq_false fun e => h (V.str.inj e)]
theorem od_eq (hu : X.A.units + 64 < cLine) : OD X (compareOp .Eq) dEq := by
  refine ⟨_, (op_eqD hu).or op_eq, fun G M σ H σd μ x y dx dy Q R hK S rx ry q k => ?_⟩
  rcases q with ⟨o1, o2, q⟩ | ⟨s, t, rfl, rfl, q⟩
  · exact .inl ⟨dx.py, dy.py, by rw [← hK]; exact rx.dp _ _ o1.1, by rw [← hK]; exact ry.dp _ _ o2.1, o1.2, o2.2, k _ _ _ _ S (rpB _) q⟩
  · cases (show x = .str s from rx)
    cases (show y = .str t from ry)
    exact .inr ⟨rfl, by rw [v_str]; exact k _ _ _ _ S (rpB _) q⟩
theorem od_ne (hu : X.A.units + 64 < cLine) : OD X (compareOp .NotEq) dNe := by
  refine ⟨_, (op_neD hu).or op_ne, fun G M σ H σd μ x y dx dy Q R hK S rx ry q k => ?_⟩
  rcases q with ⟨o1, o2, q⟩ | ⟨s, t, rfl, rfl, q⟩
  · exact .inl ⟨dx.py, dy.py, by rw [← hK]; exact rx.dp _ _ o1.1, by rw [← hK]; exact ry.dp _ _ o2.1, o1.2, o2.2, k _ _ _ _ S (rpB _) q⟩
  · cases (show x = .str s from rx)
    cases (show y = .str t from ry)
    exact .inr ⟨rfl, by rw [v_str]; exact k _ _ _ _ S (rpB _) q⟩
/-! ### isinstance, list(), tuple(), sum, gcd -/
def D.tyn : D → Option String
  | .non => some "NoneType"
  | .bl _ => some "bool"
  | .int _ => some "int"
  | .str _ => some "str"
  | .tup _ => some "tuple"
  | .lst _ => some "list"
  | .own _ => none
  | .frz _ => some "list"
  | .box _ => some "list"
  | .ty _ => none
theorem tyn_is {G : Gm} {M σ H σd μ} {d : D} {v : V} {n : String} (S : SR G M σ H σd μ) (r : Rp G.K G.bx M H d v) (e : d.tyn = some n) : TyX G.K H v (.type n) := by
  cases d with
  | non => cases e; rw [show v = .non from r]; exact .base .non
  | bl b => cases e; rw [show v = .bl b from r]; exact .base (.bl b)
  | int b => cases e; rw [show v = .int b from r]; exact .base (.int b)
  | str b => cases e; rw [show v = .str b from r]; exact .base (.str b)
  | tup l =>
    cases e
    obtain ⟨a, xs, rfl, o, _⟩ := r
    rcases o with ⟨_, o | ⟨ob, o⟩⟩ | (o | ⟨o, its, n, h1, h2, _⟩)
    · exact .base (.tup o)
    · exact .fTuple o
    · exact absurd o rd_none
    · exact .kTuple h1 h2
  | lst l =>
    cases e
    obtain ⟨a, xs, rfl, o, _⟩ := r
    exact .base (.lst o.2)
  | frz l =>
    cases e
    obtain ⟨a, xs, rfl, o, _⟩ := r
    rcases o with ⟨_, ob, o⟩ | (o | ⟨o, its, n, h1, h2, _⟩)
    · exact .base (.frz o)
    · exact absurd o rd_none
    · exact .kList h1 h2
  | box i =>
    cases e
    obtain ⟨a, e1, rfl⟩ := r
    have hi := (List.getElem?_eq_some_iff.mp e1).1
    obtain ⟨xs, h, _⟩ := S.box i a (μ[i]'(by rw [S.blen]; exact hi)) e1 (List.getElem?_eq_getElem _)
    exact .base (.lst h)
  | own l => cases e
  | ty l => cases e
def dIsi : DRC := fun ds μ Q => ∃ d n m r, ds = [d, .ty m] ∧ d.tyn = some n ∧ kitB n m = some r ∧ Q (.bl r) μ
theorem cd_isi : CD X (.builtin "isinstance") dIsi := by
  refine ⟨_, call_isi, fun G M σ H σd μ xs ds Q R hK S r q k => ?_⟩
  obtain ⟨d, n, m, b, rfl, e1, e2, q⟩ := q
  obtain ⟨v, v', rfl, r1, r2⟩ := rps2 r
  have r2 : v' = .ty m := r2
  subst r2
  exact ⟨v, .ty m, .type n, .type m, b, rfl, .ty m, by rw [← hK]; exact tyn_is S r1 e1, kit_ty e2, k _ _ _ _ S (rpB _) q⟩
theorem de_tyName {x : Str} {n : String} {pos : Pos} (hg : Gl X x) (hm : X.mg x = none) (hv : bootBuiltins x = some (.type n)) (hn : x ≠ "__name__" := by decide) (hd : (x == ("__debug__" : Str)) = false := by decide) : DE X (.Name x pos) (dC (.ty n)) :=
  de_c (v := .ty n) (pe_bltn hg hm hv rfl hn hd) fun _ _ _ _ => rfl
def dListOf : DRC := fun ds μ Q => ∃ d l, ds = [d] ∧ seqOf μ d = some l ∧ Q (.lst l) μ
theorem cd_list : CD X (.type "list") dListOf := by
  refine ⟨_, call_list_of, fun G M σ H σd μ xs ds Q R hK S r q k => ?_⟩
  obtain ⟨d, l, rfl, e, q⟩ := q
  obtain ⟨v, rfl, r1⟩ := rps1 r
  obtain ⟨a, xs, rfl, h, r'⟩ := sq_seq S r1 e
  rw [hK] at h
  exact ⟨a, xs, rfl, h, fun p hp => k _ _ _ _ (S.new hp) (S.newL hp r') q⟩
def dTupleOf : DRC := fun ds μ Q => ∃ d l, ds = [d] ∧ lstOf μ d = some l ∧ Q (.tup l) μ
theorem cd_tuple : CD X (.type "tuple") dTupleOf := by
  refine ⟨_, call_tuple_of, fun G M σ H σd μ xs ds Q R hK S r q k => ?_⟩
  obtain ⟨d, l, rfl, e, q⟩ := q
  obtain ⟨v, rfl, r1⟩ := rps1 r
  obtain ⟨a, xs, rfl, h, r'⟩ := sq_lst S r1 e
  rw [hK] at h
  exact ⟨a, xs, rfl, .inl ⟨h, fun p hp => k _ _ _ _ (S.new hp) (S.newT hp r') q⟩⟩
def dSum : DRC := fun ds μ Q => ∃ (d : D) (ns : List Int), ds = [d] ∧ lstOf μ d = some (ns.map D.int) ∧ Q (.int ns.sum) μ
theorem cd_sum (hc : X.calm = true) : CD X (.builtin "sum") dSum := by
  refine ⟨_, cr_sum hc, fun G M σ H σd μ xs ds Q R hK S r q k => ?_⟩
  obtain ⟨d, ns, rfl, e, q⟩ := q
  obtain ⟨v, rfl, r1⟩ := rps1 r
  obtain ⟨a, xs, rfl, h, r'⟩ := sq_lst S r1 e
  rw [hK, r'.ints] at h
  exact ⟨a, ns, rfl, h, k _ _ _ _ S (rpI _) q⟩
/-! ### repr -/
/-- what repr can show: data, of ints below 2 ^ 1920, not too long -/
def D.shw (d : D) : Prop := d.flat = true ∧ d.py.showable = true ∧ d.py.hasDict = false ∧ d.py.depth ≤ 50 ∧ d.py.shown.length ≤ sizeLine
def dRepr : DRC := fun ds μ Q => ∃ d, ds = [d] ∧ d.shw ∧ Q (.str d.py.shown) μ
end
end DL

set_option maxRecDepth 100000
namespace DL
open PySem PySem.Spec PyProof.Rows L2
/-! ### repr -/
mutual
theorem py_hd : ∀ d : D, d.py.hasDict = false
  | .non => rfl
  | .bl _ => rfl
  | .int _ => rfl
  | .str _ => rfl
  | .tup l => by simp only [D.py, PyData.hasDict]; exact pys_hd l
  | .lst l => by simp only [D.py, PyData.hasDict]; exact pys_hd l
  | .own _ => rfl
  | .frz l => by simp only [D.py, PyData.hasDict]; exact pys_hd l
  | .box _ => rfl
  | .ty _ => rfl
theorem pys_hd : ∀ l : List D, PyData.hasDictAll (pys l) = false
  | [] => rfl
  | d :: l => by simp only [pys, PyData.hasDictAll, py_hd d, pys_hd l]; rfl
end
section
variable {X : Cx}
theorem call_reprD (hg : X.A.guards = some []) (hu : X.A.units + 64 < cLine) : CallR X (.builtin "repr") (fun xs H Q => ∃ (v : V) (d : D), xs = [v] ∧ Dp X.K H v d.py ∧ d.py.showable = true ∧ d.py.depth ≤ 50 ∧ d.py.shown.length ≤ sizeLine ∧ Q (.str d.py.shown) H) := by
  intro pins s σ H xs us Q I r h
  obtain ⟨v, d, rfl, dp, hs, hd, hz, q⟩ := h
  obtain ⟨u, rfl, rv⟩ := Vals.one r
  obtain ⟨as, rd⟩ := Dp.reads I d.py v u dp rv
  cases hdd : d.py with
  | none =>
    rw [hdd] at rd q
    cases rd
    exact PySem.P.repr_of_none ⟨.str _, H, I.tok _, ⟨_, rfl⟩, q⟩
  | bool b =>
    rw [hdd] at rd q
    cases rd
    exact PySem.P.repr_of_bool ⟨.str _, H, I.tok _, ⟨_, by simp only [PyData.shown]; rfl⟩, q⟩
  | int i =>
    rw [hdd] at rd q hs
    cases rd
    exact PySem.P.repr_of_int (by simpa [PyData.showable] using hs) ⟨.str _, H, I.tok _, ⟨_, by simp only [PyData.shown]; rfl⟩, q⟩
  | str z =>
    rw [hdd] at rd q hz
    cases rd
    exact PySem.P.repr_of_str ⟨.str _, H, I.tok _, ⟨_, by simp only [PyData.shown]; rfl⟩, q⟩ (by simpa [PyData.shown] using hz)
  | list l =>
    have hno := py_hd d
    rw [hdd] at rd q hs hd hz hno
    cases rd
    rename_i h1 h2 h3 h4
    refine repr_of_reads' (.list h1 h2 h3 h4) hs (fun e => by rw [hno] at e; cases e) hg (by omega) (fun _ _ e => e) (fun h' u tk hk => ?_) hz
    exact ⟨.str _, H, I.kept hk, ⟨_, rfl⟩, q⟩
  | tuple l =>
    have hno := py_hd d
    rw [hdd] at rd q hs hd hz hno
    cases rd
    rename_i h1 h2 h3 h4
    refine repr_of_reads' (.tuple h1 h2 h3 h4) hs (fun e => by rw [hno] at e; cases e) hg (by omega) (fun _ _ e => e) (fun h' u tk hk => ?_) hz
    exact ⟨.str _, H, I.kept hk, ⟨_, rfl⟩, q⟩
  | dict l =>
    have hno := py_hd d
    rw [hdd] at hno
    cases hno
theorem cd_repr (hg : X.A.guards = some []) (hu : X.A.units + 64 < cLine) : CD X (.builtin "repr") dRepr := by
  refine ⟨_, call_reprD hg hu, fun G M σ H σd μ xs ds Q R hK S r q k => ?_⟩
  obtain ⟨d, rfl, ⟨h1, h2, h3, h4, h5⟩, q⟩ := q
  obtain ⟨v, rfl, r1⟩ := rps1 r
  exact ⟨v, d, rfl, by rw [← hK]; exact r1.dp _ _ h1, h2, h4, h5, k _ _ _ _ S (rpS _) q⟩
end

/-! ### a def's promise where no repr is under way -/
structure FnG (P : Program) (w : World) (K : PySem.W.Frag) (mg : Str → Option Value) (base : Heap) (k : Nat) (f : Addr) (fd : FuncData) (ps : List Str) (sp : Sp) : Prop where
  cnt : ∀ vs H Q E, sp vs H Q E → vs.length = ps.length
  does : ∀ (A : Around) (out : List Env) (s : Shared) (H : Hp) (as : Args) (us : List Value) (vs : List V) (Q : VK) (E : XK), A.guards = some [] → Room k A → Env0 P w K mg base A out s H → BindsTo s fd as (ps.zip us) → Vals vs us → sp vs H Q E →
    codeAny (model P w) A (.call (.ref f) as) (CR CX0 out P w H s Q E) s
theorem FnG.imp {P w K mg base k f fd ps} {sp sp' : Sp} (F : FnG P w K mg base k f fd ps sp) (h : ∀ vs H Q E, sp' vs H Q E → sp vs H Q E) : FnG P w K mg base k f fd ps sp' :=
  ⟨fun vs H Q E q => F.cnt vs H Q E (h _ _ _ _ q), fun A out s H as us vs Q E hg hr he hb hv hs => F.does A out s H as us vs Q E hg hr he hb hv (h _ _ _ _ hs)⟩
theorem FnG.up {P w K mg base j k f fd ps} {sp : Sp} (F : FnG P w K mg base j f fd ps sp) (h : j ≤ k) : FnG P w K mg base k f fd ps sp :=
  ⟨F.cnt, fun A out s H as us vs Q E hg hr => F.does A out s H as us vs Q E hg (hr.mono h)⟩
section
variable {P : Program} {w : World} {K : PySem.W.Frag} {mg : Str → Option Value} {base : Heap}
/-- a def by its body -/
theorem fnG_of {x qual : Str} {st : Stmt} {f : Addr} {fd : FuncData} {N ps : List Str} {k : Nat} {sp : Sp} (F : Fun K x qual st f fd) (S : FnScope N ps (defScope st)) (cnt : ∀ vs H Q E, sp vs H Q E → vs.length = ps.length)
    (bd : ∀ (cdv : Value) (A : Around) (out : List Env) (s : Shared) (H : Hp) (vs : List V) (Q : VK) (E : XK), A.guards = some [] → Room k (A.deeper (envOfC qual (defScope st) s.heap.objs.size f cdv)) → sp vs H Q E →
      ∃ t, PSs (cxOf CX0 P w K mg base N qual (defScope st) f cdv A out s H E).nox (defBody st) t ∧ t { nx := fun _ H' => Q .non H', rt := Q } (start N vs) H) : FnG P w K mg base (k + 1) f fd ps sp := by
  obtain ⟨oc, od, kV, doc, pm, an, cdv, ct, osl, rfl, lk, hcd⟩ := F.ex
  refine ⟨cnt, ?_⟩
  intro A out s H as us vs Q E hg hr e0 hb r hsp
  have n1 := cnt _ _ _ _ hsp
  have kin : K.In s.heap := e0.mod.kin.keeps fun b o e => (e0.bs b o e).1
  have lim : s.heap.NoLimit := e0.mod.nolimit.keeps fun b o e => (e0.bs b o e).1
  refine codeAny_call_function hr.depth (kin _ _ lk) rfl S.co S.gen rfl (PySem.W.codeRec_of kin hcd) ?_
  refine hb _ _ _ _ ?_
  refine wpAny_newFunctionEnv_cells S.kind (fun y hy => ?kinds) (fun env he s1 x => ?go)
  case kinds =>
    obtain ⟨n, v⟩ := y
    cases S.par n (List.of_mem_zip hy).1 with
    | inl q => exact Or.inl q
    | inr q => exact Or.inr ⟨q, PySem.W.cellsFrom_some _ _ _ (Or.inl q)⟩
  case go =>
    subst he
    refine ⟨lim.keeps x.toInCall.keep, ?_⟩
    apply codeAny_func
    obtain ⟨t, ht, hq⟩ := bd cdv A out s H vs Q E hg (hr.deeper _) hsp
    have I := inv_start (CX := CX0) (P := P) (w := w) (K := K) (mg := mg) (base := base) (E := E) S hr.hd e0 n1 r x
    have run := ht.nox.run [] s1 (start N vs) H _ I hq
    refine wpAny_mono run ?_ (fun e s' hs => hs)
    intro fl s' hs
    have fin : ∀ (σ' : List (Option V)) (H' : Hp) (v : V) (u : Value), Inv (cxOf CX0 P w K mg base N qual (defScope st) f cdv A out s H E) [] σ' H' s' → RelV v u → Q v H' → CE out P w H s Q u s' := by
      intro σ' H' v u J rv q
      exact ⟨v, H', J.os, J.bare, J.base, J.hok, rv, q⟩
    match fl, hs with
    | .ret u, ⟨v, σ', H', J, rv, q⟩ => exact fin σ' H' v u J rv q
    | .next, ⟨σ', H', J, q⟩ => exact fin σ' H' .non .none J rfl q
    | .brk, ⟨_, _, _, q⟩ => exact q.elim
    | .cont, ⟨_, _, _, q⟩ => exact q.elim
end
section
variable {X : Cx} {k : Nat} {f : Addr} {fd : FuncData} {ps : List Str} {sp : Sp} {x : Str} {p pos : Pos} {e : Expr} {es : List Expr} {t : TA}
theorem go_fnG {pins : List (Addr × Obj)} {σ : List (Option V)} {H : Hp} {s : Shared} {Q : VK} {us : List Value} {vs : List V} (F : FnG X.prog X.w X.K X.mg X.base k f fd ps sp) (hg : X.A.guards = some []) (hr : Room k X.A) (hb : Binds X.K fd ps [])
    (I : Inv X pins σ H s) (r : Vals vs us) (h : sp vs H Q E0) : wpAny (model X.prog X.w) X.A (call (.ref f) us) (EP X pins σ Q) X.xe s := by
  have n1 : (us ++ []).length = ps.length := by rw [List.append_nil, ← r.length]; exact F.cnt _ _ _ _ h
  have bt := hb s us I.kIn n1
  rw [List.append_nil] at bt
  apply wpAny_call
  refine codeAny_mono (F.does X.A X.stack s H ⟨us, []⟩ us vs Q E0 hg hr I.env0 bt r h) ?_
  intro res s' hq
  match res, hq with
  | .ok (.ret u), hq => exact I.after hq
  | .ok .next, hq => exact (show False from hq).elim
  | .ok .brk, hq => exact (show False from hq).elim
  | .ok .cont, hq => exact (show False from hq).elim
  | .error ex, hq => exact (show False from hq).elim
theorem pe_callG (F : FnG X.prog X.w X.K X.mg X.base k f fd ps sp) (hg : X.A.guards = some []) (hr : Room k X.A) (gl : Gl X x) (hm : X.mg x = some (.ref f)) (hk : PySem.W.keepIn X.K (.ref f) = true) (hb : Binds X.K fd ps [])
    (ha : PA X (e :: es) t) (hdb : (x == ("__debug__" : Str)) = false := by decide) (he : starEach (e :: es) X.env = (false, eval e X.env) :: starEach es X.env := by rfl) (hpl : (backTo pos (starEach es X.env)).any (·.1) = false := by rfl) :
    PE X (.Call (.Name x p) (e :: es) [] pos) (fun σ H Q => t σ H fun vs H1 => sp vs H1 Q E0) := by
  constructor
  intro pins s σ H Q I h
  apply wpAny_Call_Name_kw
  apply ld_glob I gl hm _ hdb
  apply PySem.W.callWith_K (h₀ := X.base) I.ok.mod.kin hk _ he hpl
  refine thn (ha.run pos pins s σ H _ I h) ?_
  rintro us s1 ⟨vs, H1, I1, r, q⟩
  exact ⟨I1.kIn, go_fnG F hg hr hb I1 r q⟩
end
end DL

set_option maxRecDepth 100000
namespace DL
open PySem PySem.Spec L2
section
variable {X : Cx} {e a b c : Expr} {t ta tb tc : DTE} {pos : Pos}
/-! ### one reading for every context -/
def liftE (K : PySem.W.Frag) (t : DTE) : TE := fun σ H R => ∃ (G : Gm) (M : Addr → Prop) (σd : DSt) (μ : Mem) (Q : D → Mem → Prop), G.K = K ∧ SR G M σ H σd μ ∧ t σd μ Q ∧ ∀ v H' d μ', SR G M σ H' σd μ' → Rp G.K G.bx M H' d v → Q d μ' → R v H'
theorem DE.lift (h : DE X e t) : PE X e (liftE X.K t) := by
  obtain ⟨te, p, h⟩ := h.ex
  refine ⟨fun pins s σ H R I hw => p.run pins s σ H R I ?_⟩
  obtain ⟨G, M, σd, μ, Q, hK, S, q, k⟩ := hw
  exact h G M σ H σd μ Q R hK S q k
def liftT (K : PySem.W.Frag) (t : DTT) : TT := fun σ H R => ∃ (G : Gm) (M : Addr → Prop) (σd : DSt) (μ : Mem) (Q : Bool → Mem → Prop), G.K = K ∧ SR G M σ H σd μ ∧ t σd μ Q ∧ ∀ b H' μ', SR G M σ H' σd μ' → Q b μ' → R b H'
theorem DT.lift {t : DTT} (h : DT X e t) : PT X e (liftT X.K t) := by
  obtain ⟨te, p, h⟩ := h.ex
  refine ⟨fun pins s σ H R I hw => p.run pins s σ H R I ?_⟩
  obtain ⟨G, M, σd, μ, Q, hK, S, q, k⟩ := hw
  exact h G M σ H σd μ Q R hK S q k

/-! ### targets -/
abbrev DTG := D → DSt → Mem → (DSt → Mem → Prop) → Prop
abbrev DTGs := List D → DSt → Mem → (DSt → Mem → Prop) → Prop
structure DG (X : Cx) (tg : Expr) (t : DTG) : Prop where
  ex : ∃ g : TG, PG X tg g ∧ ∀ (G : Gm) (M : Addr → Prop) (σ : St) (H : Hp) (σd : DSt) (μ : Mem) (d : D) (v : V) (Q : DSt → Mem → Prop) (R : St → Hp → Prop), G.K = X.K → SR G M σ H σd μ → Rp G.K G.bx M H d v → t d σd μ Q →
    (∀ σ' H' σd' μ', SR G M σ' H' σd' μ' → Q σd' μ' → R σ' H') → g v σ H R
structure DGs (X : Cx) (tg : List Expr) (t : DTGs) : Prop where
  ex : ∃ g : TGs, PGs X tg g ∧ ∀ (G : Gm) (M : Addr → Prop) (σ : St) (H : Hp) (σd : DSt) (μ : Mem) (ds : List D) (vs : List V) (Q : DSt → Mem → Prop) (R : St → Hp → Prop), G.K = X.K → SR G M σ H σd μ → Rps G.K G.bx M H ds vs → t ds σd μ Q →
    (∀ σ' H' σd' μ', SR G M σ' H' σd' μ' → Q σd' μ' → R σ' H') → g vs σ H R
theorem SR.set {G : Gm} {M : Addr → Prop} {σ : St} {H : Hp} {σd : DSt} {μ : Mem} {d : D} {v : V} (S : SR G M σ H σd μ) (i : Nat) (r : Rp G.K G.bx M H d v) : SR G M (σ.set i (some v)) H (σd.set i (some d)) μ := by
  have no : ∀ l, d ≠ .own l := fun l e => by subst e; exact r
  refine ⟨by rw [List.length_set, List.length_set]; exact S.len, fun j d' e => ?_, fun j j' p l l' e1 e2 e3 e4 => ?_, S.blen, S.box, S.keep, S.m0, S.fr, S.mt, S.nd, S.bm, S.m0t⟩
  · by_cases hj : j = i
    · subst hj
      have hl : j < σd.length := by
        have := (List.getElem?_eq_some_iff.mp e).1
        rwa [List.length_set] at this
      rw [List.getElem?_set_self hl] at e
      cases e
      exact ⟨v, by rw [List.getElem?_set_self (by rw [S.len]; exact hl)], .of r⟩
    · rw [List.getElem?_set_ne (Ne.symm hj)] at e
      obtain ⟨v', e1, r'⟩ := S.slot j d' e
      exact ⟨v', by rw [List.getElem?_set_ne (Ne.symm hj)]; exact e1, r'⟩
  · have hn : ∀ {j : Nat} {l : List D}, (σd.set i (some d))[j]? = some (some (.own l)) → j ≠ i := fun {j l} e z => by
      subst z
      have hl : j < σd.length := by
        have := (List.getElem?_eq_some_iff.mp e).1
        rwa [List.length_set] at this
      rw [List.getElem?_set_self hl] at e
      cases e
      exact no _ rfl
    have n1 := hn e1
    have n2 := hn e2
    rw [List.getElem?_set_ne (Ne.symm n1)] at e1 e3
    rw [List.getElem?_set_ne (Ne.symm n2)] at e2 e4
    exact S.dist j j' p l l' e1 e2 e3 e4
def dgName (i : Nat) : DTG := fun d σd μ Q => Q (σd.set i (some d)) μ
theorem dg_name {i : Nat} (h : PG X e (gName i)) : DG X e (dgName i) := by
  refine ⟨_, h, fun G M σ H σd μ d v Q R hK S r q k => ?_⟩
  exact k _ _ _ _ (S.set i r) q
def dgNil : DTGs := fun ds σd μ Q => ds = [] ∧ Q σd μ
def dgCons (t : DTG) (u : DTGs) : DTGs := fun ds σd μ Q => ∃ d r, ds = d :: r ∧ t d σd μ fun σ' μ' => u r σ' μ' Q
theorem dgs_nil : DGs X [] dgNil := by
  refine ⟨_, pgs_nil, fun G M σ H σd μ d v Q R hK S r q k => ?_⟩
  obtain ⟨rfl, q⟩ := q
  exact ⟨r, k _ _ _ _ S q⟩
def Gm.pins' (G : Gm) : List D → List V → Gm
  | d :: ds, v :: vs => (G.pins' ds vs).pin v d
  | _, _ => G
theorem SR.pinsAll {G : Gm} {M : Addr → Prop} {σ : St} {H : Hp} {σd : DSt} {μ : Mem} : ∀ {ds : List D} {vs : List V}, SR G M σ H σd μ → Rps G.K G.bx M H ds vs → SR (G.pins' ds vs) M σ H σd μ ∧ (G.pins' ds vs).K = G.K ∧ (G.pins' ds vs).bx = G.bx
  | [], vs, S, r => ⟨by cases vs <;> exact S, by cases vs <;> rfl, by cases vs <;> rfl⟩
  | d :: ds, vs, S, r => by
    obtain ⟨v, vr, rfl, h1, h2⟩ := r
    obtain ⟨S', hK, hb⟩ := SR.pinsAll (ds := ds) (vs := vr) S h2
    exact ⟨S'.pin (by rw [hK, hb]; exact h1), hK, hb⟩
theorem SR.unpinsAll {G : Gm} {M : Addr → Prop} {σ : St} {H : Hp} {σd : DSt} {μ : Mem} : ∀ {ds : List D} {vs : List V}, vs.length = ds.length → SR (G.pins' ds vs) M σ H σd μ → SR G M σ H σd μ ∧ Rps G.K G.bx M H ds vs ∧ (G.pins' ds vs).K = G.K ∧ (G.pins' ds vs).bx = G.bx
  | [], [], _, S => ⟨S, rfl, rfl, rfl⟩
  | [], _ :: _, h, _ => nomatch h
  | _ :: _, [], h, _ => nomatch h
  | d :: ds, v :: vs, h, S => by
    obtain ⟨S', r⟩ := SR.unpin (G := G.pins' ds vs) S
    obtain ⟨S'', rs, hK, hb⟩ := SR.unpinsAll (ds := ds) (vs := vs) (by simpa using h) S'
    rw [hK, hb] at r
    exact ⟨S'', ⟨v, vs, rfl, r, rs⟩, hK, hb⟩
theorem dgs_cons {es : List Expr} {t : DTG} {u : DTGs} (h1 : DG X e t) (h2 : DGs X es u) (ha : ∀ (g1 : TG) (g2 : TGs), PG X e g1 → PGs X es g2 → PGs X (e :: es) (gCons g1 g2) := by exact fun _ _ a b => pgs_cons a b) : DGs X (e :: es) (dgCons t u) := by
  obtain ⟨g, p, h⟩ := h1.ex
  obtain ⟨g', p', h'⟩ := h2.ex
  refine ⟨_, ha _ _ p p', fun G M σ H σd μ ds vs Q R hK S r q k => ?_⟩
  obtain ⟨d, dr, rfl, q⟩ := q
  obtain ⟨v, vr, rfl, r1, r2⟩ := r
  refine ⟨v, vr, rfl, ?_⟩
  have hl : vr.length = dr.length := r2.len
  obtain ⟨S', eK, eb⟩ := S.pinsAll r2
  refine h (G.pins' dr vr) M σ H σd μ d v _ _ (by rw [eK]; exact hK) S' (by rw [eK, eb]; exact r1) q fun σ' H' σd' μ' S2 q2 => ?_
  obtain ⟨S3, r3, _, _⟩ := S2.unpinsAll hl
  exact h' G M σ' H' σd' μ' dr vr Q R hK S3 r3 q2 k
/-- a, b, .. of a tuple or a list with so many items -/
def dgSeq (n : Nat) (t : DTGs) : DTG := fun d σd μ Q => ∃ l, seqOf μ d = some l ∧ l.length = n ∧ t l σd μ Q
theorem pg_or {tg : Expr} {g g' : TG} (h : PG X tg g) (h' : PG X tg g') : PG X tg (fun v σ H Q => g v σ H Q ∨ g' v σ H Q) := by
  refine ⟨fun pins s σ H x v Q I r q => ?_⟩
  rcases q with q | q
  · exact h.run pins s σ H x v Q I r q
  · exact h'.run pins s σ H x v Q I r q
theorem dg_seq {es : List Expr} {k : Nat} {t : DTGs} {n : Nat} (hc : X.calm = true) (h : DGs X es t)
    (hp : ∀ g : TGs, PGs X es g → PG X (.Tuple es k pos) (gTup X.K n g) ∧ PG X (.Tuple es k pos) (gUnl X.K n g) := by exact fun _ p => ⟨pg_tup rfl p, pg_unl rfl p⟩) : DG X (.Tuple es k pos) (dgSeq n t) := by
  obtain ⟨g, p, h⟩ := h.ex
  refine ⟨_, pg_or (hp g p).1 (hp g p).2, fun G M σ H σd μ d v Q R hK S r q k => ?_⟩
  obtain ⟨l, e, hl, q⟩ := q
  obtain ⟨a, xs, rfl, hs, rs⟩ := sq_seq S r e
  rw [hK] at hs
  rcases hs with hs | hs
  · exact .inr ⟨a, xs, rfl, hs, by rw [rs.len]; exact hl, h G M σ H σd μ l xs Q R hK S rs q k⟩
  · exact .inl ⟨a, xs, rfl, hs, by rw [rs.len]; exact hl, h G M σ H σd μ l xs Q R hK S rs q k⟩
/-- o[i] = d, o a box -/
def dgBox (to ti : DTE) : DTG := fun d σd μ Q => to σd μ fun o μ1 => ti σd μ1 fun y μ2 => ∃ b l i j, o = .box b ∧ μ2[b]? = some l ∧ y = .int i ∧ ixN l.length i = some j ∧ Q σd (μ2.set b (l.set j d))
theorem nodup_ix' {α : Type} {N : List α} (hN : N.Nodup) {i j : Nat} {x : α} (a : N[i]? = some x) (b : N[j]? = some x) : i = j := by
  obtain ⟨h1, e1⟩ := List.getElem?_eq_some_iff.mp a
  obtain ⟨h2, e2⟩ := List.getElem?_eq_some_iff.mp b
  exact (List.getElem_inj hN).mp (e1.trans e2.symm)
theorem SR.boxSet {G : Gm} {M : Addr → Prop} {σ : St} {H : Hp} {σd : DSt} {μ : Mem} {b : Nat} {a : Addr} {l : List D} {xs : List V} (S : SR G M σ H σd μ) (e : G.bx[b]? = some a) (r : Rps G.K G.bx M H l xs) (hl : b < μ.length) (hb : ∃ ys, H a = some (.lst ys)) :
    SR G M σ (upd H a (.lst xs)) σd (μ.set b l) := by
  have ma : M a := S.m0 _ (S.bm a (List.mem_of_getElem? e))
  have k : Kp M M H (upd H a (.lst xs)) := fun c o m e => ⟨by rw [upd_ne (fun z => m (by rw [z]; exact ma))]; exact e, m⟩
  refine ⟨S.len, fun i d e => ?_, S.dist, by rw [List.length_set]; exact S.blen, fun i c l' e1 e2 => ?_, fun c o h1 h2 => ?_, S.m0, fun q hq => Rp.stay k _ _ (S.fr q hq), fun c m => ?_, S.nd, S.bm, S.m0t⟩
  · obtain ⟨v, e1, r⟩ := S.slot i d e
    refine ⟨v, e1, r.stay k fun p l m h0 hp => ⟨m, ?_⟩⟩
    have : p ≠ a := fun z => by
      subst z
      obtain ⟨o, e'⟩ := S.m0t p (S.bm p (List.mem_of_getElem? ‹G.bx[b]? = some p›))
      rw [h0] at e'; cases e'
    rw [upd_ne this]; exact hp
  · by_cases hi : i = b
    · subst hi
      rw [e] at e1; cases e1
      rw [List.getElem?_set_self hl] at e2
      cases e2
      exact ⟨xs, upd_same, Rps.stay k _ _ r⟩
    · rw [List.getElem?_set_ne (Ne.symm hi)] at e2
      obtain ⟨ys, e3, r3⟩ := S.box i c l' e1 e2
      have : c ≠ a := fun z => by
        subst z
        exact hi (nodup_ix' S.nd e1 e)
      exact ⟨ys, by rw [upd_ne this]; exact e3, Rps.stay k _ _ r3⟩
  · have : c ≠ a := fun z => h1 (by rw [z]; exact List.mem_of_getElem? e)
    rw [upd_ne this]; exact S.keep c o h1 h2
  · by_cases hc : c = a
    · subst hc; exact ⟨_, upd_same⟩
    · obtain ⟨o, e⟩ := S.mt c m
      exact ⟨o, by rw [upd_ne hc]; exact e⟩
theorem dg_box {o i : Expr} {to ti : DTE} (ho : DE X o to) (hi : DE X i ti) (hp : ∀ (te te' : TE), PE X o te → PE X i te' → PG X (.Subscript o i pos) (gSub te te' rSetL) := by exact fun _ _ a b => pg_sub a b set_list) : DG X (.Subscript o i pos) (dgBox to ti) := by
  obtain ⟨te, p, h⟩ := ho.ex
  obtain ⟨te', p', h'⟩ := hi.ex
  refine ⟨_, hp _ _ p p', fun G M σ H σd μ d v Q R hK S r q k => ?_⟩
  refine h (G.pin v d) M σ H σd μ _ _ hK (S.pin r) q fun v1 H1 d1 μ1 S1 r1 q1 => ?_
  refine h' ((G.pin v d).pin v1 d1) M σ H1 σd μ1 _ _ hK (S1.pin r1) q1 fun v2 H2 d2 μ2 S2 r2 q2 => ?_
  obtain ⟨S2a, r1'⟩ := S2.unpin
  obtain ⟨S2b, r'⟩ := S2a.unpin
  obtain ⟨b, l, i, j, rfl, e1, rfl, e2, q⟩ := q2
  obtain ⟨a, xs, rfl, eb, hx, rs⟩ := sq_box S2b r1' e1
  refine ⟨a, xs, i, j, rfl, r2, hx, by rw [rs.len]; exact e2, ?_⟩
  exact k _ _ _ _ (S2b.boxSet eb (rs.set j r') (List.getElem?_eq_some_iff.mp e1).1 ⟨_, hx⟩) q
end
end DL

set_option maxRecDepth 100000
namespace DL
open PySem PySem.Spec L2
section
variable {X : Cx} {e a b c : Expr} {t ta tb tc : DTE} {pos : Pos} {st : Stmt} {sts : List Stmt} {u u' : DTS}
/-! ### statements -/
def dNext : DTS := fun De σd μ => De.nx σd μ
def dSeq (t u : DTS) : DTS := fun De σd μ => t { De with nx := u De } σd μ
theorem dss_nil : DSs X [] dNext := ⟨_, pss_nil, fun G M σ H σd μ De E hK S q L => L.nx _ _ _ _ _ S q⟩
theorem dss_one (h : DS X st u) : DSs X [st] u := by
  obtain ⟨ts, p, h⟩ := h.ex
  exact ⟨_, pss_one p, h⟩
theorem dss_cons (h : DS X st u) (h' : DSs X sts u') : DSs X (st :: sts) (dSeq u u') := by
  obtain ⟨ts, p, h⟩ := h.ex
  obtain ⟨ts', p', h'⟩ := h'.ex
  refine ⟨_, pss_cons p p', fun G M σ H σd μ De E hK S q L => ?_⟩
  exact h G M σ H σd μ _ _ hK S q ⟨fun M σ H σd μ S q => h' G M σ H σd μ De E hK S q L, L.rt, L.bk, L.ct⟩
/-- a list of one's own is left as it is from here on -/
def dFreeze (i : Nat) (t : DTS) : DTS := fun De σd μ => ∃ l : List D, σd[i]? = some (some (.own l)) ∧ t De (σd.set i (some (.lst l))) μ
theorem SR.freeze {G : Gm} {M : Addr → Prop} {σ : St} {H : Hp} {σd : DSt} {μ : Mem} {i : Nat} {l : List D} (S : SR G M σ H σd μ) (e : σd[i]? = some (some (.own l))) : ∃ M', SR G M' σ H (σd.set i (some (.lst l))) μ := by
  obtain ⟨v, ev, p, xs, rfl, mp, hp0, hp, rs⟩ := S.slot i _ e
  have pm0 : ¬ G.M0 p := fun z => by obtain ⟨o, q⟩ := S.m0t p z; rw [hp0] at q; cases q
  have hi : i < σd.length := (List.getElem?_eq_some_iff.mp e).1
  have k : Kp M (fun a => M a ∧ a ≠ p) H H := fun a o m e => ⟨e, fun z => m z.1⟩
  refine ⟨fun a => M a ∧ a ≠ p, by rw [List.length_set]; exact S.len, fun j d ej => ?_, fun j j' q l1 l2 e1 e2 e3 e4 => ?_, S.blen, fun j a l e1 e2 => ?_, S.keep, fun a m => ⟨S.m0 a m, fun z => pm0 (z ▸ m)⟩, fun q hq => Rp.stay k _ _ (S.fr q hq), fun a m => S.mt a m.1, S.nd, S.bm, S.m0t⟩
  · by_cases hj : j = i
    · subst hj
      rw [List.getElem?_set_self hi] at ej
      cases ej
      exact ⟨.ref p, ev, p, xs, rfl, ⟨fun z => z.2 rfl, hp⟩, Rps.stay k _ _ rs⟩
    · rw [List.getElem?_set_ne (Ne.symm hj)] at ej
      obtain ⟨v, ev', r⟩ := S.slot j d ej
      refine ⟨v, ev', ?_⟩
      cases d with
      | own l' =>
        obtain ⟨p', xs', rfl, m', h0', h', r'⟩ := r
        refine ⟨p', xs', rfl, ⟨m', fun z => ?_⟩, h0', h', Rps.stay k _ _ r'⟩
        subst z
        exact hj (S.dist j i p' l' l ej e ev' ev)
      | _ => exact Rp.stay k _ _ r
  · have hn : ∀ {j : Nat} {l' : List D}, (σd.set i (some (.lst l)))[j]? = some (some (.own l')) → j ≠ i := fun {j l'} e z => by
      subst z
      rw [List.getElem?_set_self hi] at e
      cases e
    rw [List.getElem?_set_ne (Ne.symm (hn e1))] at e1
    rw [List.getElem?_set_ne (Ne.symm (hn e2))] at e2
    exact S.dist j j' q l1 l2 e1 e2 e3 e4
  · obtain ⟨ys, h1, h2⟩ := S.box j a l e1 e2
    exact ⟨ys, h1, Rps.stay k _ _ h2⟩
theorem dss_freeze (i : Nat) (h : DSs X sts u) : DSs X sts (dFreeze i u) := by
  obtain ⟨ts, p, h⟩ := h.ex
  refine ⟨_, p, fun G M σ H σd μ De E hK S q L => ?_⟩
  obtain ⟨l, e, q⟩ := q
  obtain ⟨M', S'⟩ := S.freeze e
  exact h G M' σ H _ μ De E hK S' q L
def dAsg (te : DTE) (g : DTG) : DTS := fun De σd μ => te σd μ fun x μ1 => g x σd μ1 De.nx
theorem ds_of_asg {tg : Expr} {g : DTG} (he : DE X e t) (hg : DG X tg g) (hp : ∀ te g', PE X e te → PG X tg g' → PS X (.Assign [tg] e pos) (tAsg te g')) : DS X (.Assign [tg] e pos) (dAsg t g) := by
  obtain ⟨te, p, h⟩ := he.ex
  obtain ⟨g', p', h'⟩ := hg.ex
  refine ⟨_, hp _ _ p p', fun G M σ H σd μ De E hK S q L => ?_⟩
  refine h G M σ H σd μ _ _ hK S q fun v H1 d μ1 S1 r1 q1 => ?_
  exact h' G M σ H1 σd μ1 d v _ _ hK S1 r1 q1 fun σ' H' σd' μ' S' q' => L.nx _ _ _ _ _ S' q'
theorem ds_asg {tg : Expr} {g : DTG} (he : DE X e t) (hg : DG X tg g) (hs : swapsWithSole [tg] e pos.line X.env = pure false := by rfl) (hw : swappedStores [tg] e X.env = pure none := by rfl)
    (h1 : (assignEach [tg] X.env).map (·.2) = [assign tg X.env] := by rfl) : DS X (.Assign [tg] e pos) (dAsg t g) := ds_of_asg he hg fun _ _ a b => ps_asg a b hs hw h1
theorem ds_set {i : Nat} {x : Str} {pos' : Pos} (hN : X.N.Nodup) (hi : X.N[i]? = some x) (hx : Loc X.env.scope x) (he : DE X e t) (hs : swapsWith e (some (.Name x pos')) pos.line X.env = pure false := by rfl) (hf : X.fn x = true ∨ X.env.scope.names.lookup x = some .local := by first | exact .inl rfl | exact .inr rfl | assumption) :
    DS X (.Assign [.Name x pos'] e pos) (dAsg t (dgName i)) := by
  obtain ⟨te, p, h⟩ := he.ex
  refine ⟨_, ps_set hN hi hx p hs hf, fun G M σ H σd μ De E hK S q L => ?_⟩
  refine h G M σ H σd μ _ _ hK S q fun v H1 d μ1 S1 r1 q1 => ?_
  exact L.nx _ _ _ _ _ (S1.set i r1) q1
def dPar (i j : Nat) (ta : DTA) : DTS := fun De σd μ => ta σd μ fun ds μ1 => ∃ v w, ds = [v, w] ∧ De.nx ((σd.set i (some v)).set j (some w)) μ1
theorem ds_par {i j : Nat} {x y : Str} {ta : DTA} {px py pt : Pos} {kt k2 pt2} (ha : DA X [a, b] ta) (hp : ∀ ta', PA X [a, b] ta' → PS X (.Assign [.Tuple [.Name x px, .Name y py] kt pt] (.Tuple [a, b] k2 pt2) pos) (tPar i j ta')) :
    DS X (.Assign [.Tuple [.Name x px, .Name y py] kt pt] (.Tuple [a, b] k2 pt2) pos) (dPar i j ta) := by
  obtain ⟨te, p, h⟩ := ha.ex
  refine ⟨_, hp _ p, fun G M σ H σd μ De E hK S q L => ?_⟩
  refine h G M σ H σd μ _ _ hK S q fun vs H1 ds μ1 S1 r1 q1 => ?_
  obtain ⟨d, d', rfl, q1⟩ := q1
  obtain ⟨v, w, rfl, r1, r2⟩ := rps2 r1
  exact ⟨v, w, rfl, L.nx _ _ _ _ _ ((S1.set i r1).set j r2) q1⟩
def dPar3 (i j l : Nat) (ta : DTA) : DTS := fun De σd μ => ta σd μ fun ds μ1 => ∃ u v w, ds = [u, v, w] ∧ De.nx (((σd.set i (some u)).set j (some v)).set l (some w)) μ1
theorem ds_par3 {i j l : Nat} {x y z : Str} {ta : DTA} {px py pz pt : Pos} {kt k2 pt2} (ha : DA X [a, b, c] ta) (hp : ∀ ta', PA X [a, b, c] ta' → PS X (.Assign [.Tuple [.Name x px, .Name y py, .Name z pz] kt pt] (.Tuple [a, b, c] k2 pt2) pos) (tPar3 i j l ta')) :
    DS X (.Assign [.Tuple [.Name x px, .Name y py, .Name z pz] kt pt] (.Tuple [a, b, c] k2 pt2) pos) (dPar3 i j l ta) := by
  obtain ⟨te, p, h⟩ := ha.ex
  refine ⟨_, hp _ p, fun G M σ H σd μ De E hK S q L => ?_⟩
  refine h G M σ H σd μ _ _ hK S q fun vs H1 ds μ1 S1 r1 q1 => ?_
  obtain ⟨d, d', d'', rfl, q1⟩ := q1
  obtain ⟨v, vr, rfl, r1, r2⟩ := r1
  obtain ⟨w, w', rfl, r2, r3⟩ := rps2 r2
  exact ⟨v, w, w', rfl, L.nx _ _ _ _ _ (((S1.set i r1).set j r2).set l r3) q1⟩
def dRet (te : DTE) : DTS := fun De σd μ => te σd μ De.rt
theorem ds_ret (he : DE X e t) : DS X (.Return (some e) pos) (dRet t) := by
  obtain ⟨te, p, h⟩ := he.ex
  refine ⟨_, ps_ret p, fun G M σ H σd μ De E hK S q L => ?_⟩
  exact h G M σ H σd μ _ _ hK S q fun v H1 d μ1 S1 r1 q1 => L.rt _ _ _ _ _ _ _ S1 r1 q1
def dRetN : DTS := fun De _ μ => De.rt .non μ
theorem ds_retN : DS X (.Return none pos) dRetN := ⟨_, ps_retN, fun G M σ H σd μ De E hK S q L => L.rt _ _ _ _ _ .non .non S rfl q⟩
def dIfS (c : DTT) (t u : DTS) : DTS := fun De σd μ => c σd μ fun b μ1 => if b = true then t De σd μ1 else u De σd μ1
theorem ds_if {c : Expr} {x y : List Stmt} {tc : DTT} (hc : DT X c tc) (ha : DSs X x u) (hb : DSs X y u') : DS X (.If c x y pos) (dIfS tc u u') := by
  obtain ⟨tc, p, h⟩ := hc.ex
  obtain ⟨t1, p1, h1⟩ := ha.ex
  obtain ⟨t2, p2, h2⟩ := hb.ex
  refine ⟨_, ps_if p p1 p2, fun G M σ H σd μ De E hK S q L => ?_⟩
  refine h G M σ H σd μ _ _ hK S q fun b H1 μ1 S1 q1 => ?_
  cases b with
  | true => rw [if_pos rfl] at q1 ⊢; exact h1 G M σ H1 σd μ1 De E hK S1 q1 L
  | false => rw [if_neg (by decide)] at q1 ⊢; exact h2 G M σ H1 σd μ1 De E hK S1 q1 L
theorem ds_pass : DS X (.Pass pos) dNext := ⟨_, ps_pass, fun G M σ H σd μ De E hK S q L => L.nx _ _ _ _ _ S q⟩
def dBreak : DTS := fun De σd μ => De.bk σd μ
def dCont : DTS := fun De σd μ => De.ct σd μ
theorem ds_break : DS X (.Break pos) dBreak := ⟨_, ps_break, fun G M σ H σd μ De E hK S q L => L.bk _ _ _ _ _ S q⟩
theorem ds_continue : DS X (.Continue pos) dCont := ⟨_, ps_continue, fun G M σ H σd μ De E hK S q L => L.ct _ _ _ _ _ S q⟩
theorem ds_doc {x j pos'} : DS X (.Expr (.Constant (.str x) j pos) pos') dNext := ⟨_, ps_doc, fun G M σ H σd μ De E hK S q L => L.nx _ _ _ _ _ S q⟩
def dDrop (te : DTE) : DTS := fun De σd μ => te σd μ fun _ μ1 => De.nx σd μ1
theorem ds_expr (he : DE X e t) (hs : swapsWith e none pos.line X.env = pure false := by rfl) : DS X (.Expr e pos) (dDrop t) := by
  obtain ⟨te, p, h⟩ := he.ex
  refine ⟨_, ps_expr p hs, fun G M σ H σd μ De E hK S q L => ?_⟩
  exact h G M σ H σd μ _ _ hK S q fun v H1 d μ1 S1 r1 q1 => L.nx _ _ _ _ _ S1 q1
/-! lists of one's own -/
theorem SR.ownSet {G : Gm} {M : Addr → Prop} {σ : St} {H : Hp} {σd : DSt} {μ : Mem} {l : List D} {xs : List V} {p : Addr} (S : SR G M σ H σd μ) (i : Nat) (hp : H p = none) (rs : Rps G.K G.bx M H l xs) :
    SR G (fun a => M a ∨ a = p) (σ.set i (some (.ref p))) (upd H p (.lst xs)) (σd.set i (some (.own l))) μ := by
  have nm : ∀ a, M a → a ≠ p := fun a m => by obtain ⟨u, e⟩ := S.mt a m; exact ne_of_none e hp
  have k : Kp M (fun a => M a ∨ a = p) H (upd H p (.lst xs)) := fun a o m e => by
    have : a ≠ p := ne_of_none e hp
    exact ⟨by rw [upd_ne this]; exact e, fun z => z.elim m this⟩
  have h0 : G.H0 p = none := by
    cases q : G.H0 p with
    | none => rfl
    | some o =>
      by_cases hb : p ∈ G.bx
      · obtain ⟨u, e⟩ := S.mt p (S.m0 p (S.bm p hb)); rw [hp] at e; cases e
      · have := S.keep p o hb q; rw [hp] at this; cases this
  refine ⟨by rw [List.length_set, List.length_set]; exact S.len, fun j d e => ?_, fun j j' q l1 l2 e1 e2 e3 e4 => ?_, S.blen, fun j a l e1 e2 => ?_, fun a o h1 h2 => ?_, fun a m => .inl (S.m0 a m), fun q hq => Rp.stay k _ _ (S.fr q hq), fun a m => ?_, S.nd, S.bm, S.m0t⟩
  · by_cases hj : j = i
    · subst hj
      have hl : j < σd.length := by
        have := (List.getElem?_eq_some_iff.mp e).1
        rwa [List.length_set] at this
      rw [List.getElem?_set_self hl] at e
      cases e
      exact ⟨.ref p, by rw [List.getElem?_set_self (by rw [S.len]; exact hl)], p, xs, rfl, .inr rfl, h0, upd_same, Rps.stay k _ _ rs⟩
    · rw [List.getElem?_set_ne (Ne.symm hj)] at e
      obtain ⟨v, ev, r⟩ := S.slot j d e
      exact ⟨v, by rw [List.getElem?_set_ne (Ne.symm hj)]; exact ev, r.stay k fun q l m _ e => ⟨.inl m, by rw [upd_ne (nm q m)]; exact e⟩⟩
  · have old : ∀ {j : Nat} {l' : List D}, j ≠ i → (σd.set i (some (.own l)))[j]? = some (some (.own l')) → (σ.set i (some (.ref p)))[j]? = some (some (.ref q)) → q ≠ p := fun {j l'} hj e1 e3 z => by
      rw [List.getElem?_set_ne (Ne.symm hj)] at e1 e3
      obtain ⟨v, ev, p', xs', rfl, m', _⟩ := S.slot j _ e1
      rw [e3] at ev; cases ev
      exact nm _ m' z
    have new : ∀ {j : Nat} {l' : List D}, j = i → (σd.set i (some (.own l)))[j]? = some (some (.own l')) → (σ.set i (some (.ref p)))[j]? = some (some (.ref q)) → q = p := fun {j l'} hj e1 e3 => by
      subst hj
      have hl : j < σd.length := by
        have := (List.getElem?_eq_some_iff.mp e1).1
        rwa [List.length_set] at this
      rw [List.getElem?_set_self (by rw [S.len]; exact hl)] at e3
      cases e3; rfl
    by_cases h1 : j = i
    · by_cases h2 : j' = i
      · rw [h1, h2]
      · exact absurd (new h1 e1 e3) (old h2 e2 e4)
    · by_cases h2 : j' = i
      · exact absurd (new h2 e2 e4) (old h1 e1 e3)
      · rw [List.getElem?_set_ne (Ne.symm h1)] at e1 e3
        rw [List.getElem?_set_ne (Ne.symm h2)] at e2 e4
        exact S.dist j j' q l1 l2 e1 e2 e3 e4
  · obtain ⟨ys, e3, r3⟩ := S.box j a l e1 e2
    exact ⟨ys, by rw [upd_ne (ne_of_none e3 hp)]; exact e3, Rps.stay k _ _ r3⟩
  · have := S.keep a o h1 h2
    rw [upd_ne (ne_of_none this hp)]; exact this
  · rcases m with m | m
    · obtain ⟨u, e⟩ := S.mt a m
      exact ⟨u, by rw [upd_ne (nm a m)]; exact e⟩
    · subst m; exact ⟨_, upd_same⟩
/-- x = [..], a list of one's own -/
def dOwn (i : Nat) (ta : DTA) : DTS := fun De σd μ => ta σd μ fun ds μ1 => ds.length ≤ sizeLine ∧ De.nx (σd.set i (some (.own ds))) μ1
theorem ds_own {i : Nat} {x : Str} {pos' p2 : Pos} {es : List Expr} {ta : DTA} (hN : X.N.Nodup) (hi : X.N[i]? = some x) (hx : Loc X.env.scope x) (he : DA X es ta) (hs : swapsWith (.List es p2) (some (.Name x pos')) pos.line X.env = pure false := by rfl) (hf : X.fn x = true ∨ X.env.scope.names.lookup x = some .local := by first | exact .inl rfl | exact .inr rfl | assumption) :
    DS X (.Assign [.Name x pos'] (.List es p2) pos) (dOwn i ta) := by
  obtain ⟨te, p, h⟩ := he.ex
  refine ⟨_, ps_set hN hi hx (pe_lst p) hs hf, fun G M σ H σd μ De E hK S q L => ?_⟩
  refine h G M σ H σd μ _ _ hK S q fun v H1 d μ1 S1 r1 q1 => ?_
  exact ⟨by rw [r1.len]; exact q1.1, fun p hp => L.nx _ _ _ _ _ (S1.ownSet i hp r1) q1.2⟩
theorem SR.ownUpd {G : Gm} {M : Addr → Prop} {σ : St} {H : Hp} {σd : DSt} {μ : Mem} {l l' : List D} {xs : List V} {p : Addr} (S : SR G M σ H σd μ) (i : Nat) (e : σd[i]? = some (some (.own l))) (ev : σ[i]? = some (some (.ref p))) (rs : Rps G.K G.bx M H l' xs) :
    SR G M σ (upd H p (.lst xs)) (σd.set i (some (.own l'))) μ := by
  obtain ⟨v, ev', p', xs', rfl, mp, h0, hp, _⟩ := S.slot i _ e
  rw [ev] at ev'; cases ev'
  have hi : i < σd.length := (List.getElem?_eq_some_iff.mp e).1
  have k : Kp M M H (upd H p (.lst xs)) := fun a o m e => ⟨by rw [upd_ne (fun z : a = p => m (by rw [z]; exact mp))]; exact e, m⟩
  have nb : p ∉ G.bx := fun z => by obtain ⟨o, q⟩ := S.m0t p (S.bm p z); rw [h0] at q; cases q
  refine ⟨by rw [List.length_set]; exact S.len, fun j d ej => ?_, fun j j' q l1 l2 e1 e2 e3 e4 => ?_, S.blen, fun j a l e1 e2 => ?_, fun a o h1 h2 => ?_, S.m0, fun q hq => Rp.stay k _ _ (S.fr q hq), fun a m => ?_, S.nd, S.bm, S.m0t⟩
  · by_cases hj : j = i
    · subst hj
      rw [List.getElem?_set_self hi] at ej
      cases ej
      exact ⟨.ref p, ev, p, xs, rfl, mp, h0, upd_same, Rps.stay k _ _ rs⟩
    · rw [List.getElem?_set_ne (Ne.symm hj)] at ej
      obtain ⟨v, ev', r⟩ := S.slot j d ej
      refine ⟨v, ev', ?_⟩
      cases d with
      | own lj =>
        obtain ⟨pj, xj, rfl, mj, h0j, hj', rj⟩ := r
        have : pj ≠ p := fun z => by subst z; exact hj (S.dist j i pj lj l ej e ev' ev)
        exact ⟨pj, xj, rfl, mj, h0j, by rw [upd_ne this]; exact hj', Rps.stay k _ _ rj⟩
      | _ => exact Rp.stay k _ _ r
  · have old : ∀ {j : Nat} {lj : List D}, (σd.set i (some (.own l')))[j]? = some (some (.own lj)) → ∃ l2, σd[j]? = some (some (.own l2)) := fun {j lj} ej => by
      by_cases hj : j = i
      · exact ⟨l, hj ▸ e⟩
      · rw [List.getElem?_set_ne (Ne.symm hj)] at ej; exact ⟨lj, ej⟩
    obtain ⟨a1, f1⟩ := old e1
    obtain ⟨a2, f2⟩ := old e2
    exact S.dist j j' q a1 a2 f1 f2 e3 e4
  · obtain ⟨ys, e3, r3⟩ := S.box j a l e1 e2
    exact ⟨ys, by rw [upd_ne (fun z : a = p => nb (by rw [← z]; exact List.mem_of_getElem? e1))]; exact e3, Rps.stay k _ _ r3⟩
  · have := S.keep a o h1 h2
    have na : a ≠ p := fun z => by subst z; rw [h0] at h2; cases h2
    rw [upd_ne na]; exact this
  · by_cases ha : a = p
    · subst ha; exact ⟨_, upd_same⟩
    · obtain ⟨o, e⟩ := S.mt a m
      exact ⟨o, by rw [upd_ne ha]; exact e⟩
/-- x.append(e), x a list of one's own -/
def dApp (i : Nat) (t : DTE) : DTS := fun De σd μ => ∃ l : List D, σd[i]? = some (some (.own l)) ∧ t σd μ fun d μ1 => l.length < sizeLine ∧ De.nx (σd.set i (some (.own (l ++ [d])))) μ1
theorem ds_append {i : Nat} {o : Expr} {apos cpos : Pos} (ho : PE X o (tVar i)) (he : DE X e t) (hp : ∀ te, PE X e te → PS X (.Expr (.Call (.Attribute o "append" apos) [e] [] cpos) pos) (tDrop (tBM X.K "list" rAppend (tVar i) (tCons te tNil))) := by exact fun te p => ps_expr (pe_bm PySem.F.plainAttrs_list PySem.F.slot_list_append PySem.F.type_list_append mt_append (pv _) (pa_cons p pa_nil))) :
    DS X (.Expr (.Call (.Attribute o "append" apos) [e] [] cpos) pos) (dApp i t) := by
  obtain ⟨te, p, h⟩ := he.ex
  refine ⟨_, hp _ p, fun G M σ H σd μ De E hK S q L => ?_⟩
  obtain ⟨l, e1, q⟩ := q
  obtain ⟨v, ev, pp, xs, rfl, mp, h0, hh, rs⟩ := S.slot i _ e1
  refine ⟨_, ev, .inl ⟨rfl, xs, SqL.of hh⟩, ?_⟩
  refine h G M σ H σd μ _ _ hK S q fun w H1 d μ1 S1 r1 q1 => ?_
  obtain ⟨v', ev', p', xs', e2, mp', h0', hh', rs'⟩ := S1.slot i _ e1
  rw [ev] at ev'; cases ev'; cases e2
  exact ⟨pp, xs', w, rfl, rfl, hh', by rw [rs'.len]; exact q1.1, L.nx _ _ _ _ _ (S1.ownUpd i e1 ev (rs'.app (.one r1))) q1.2⟩
/-! ### defs and their calls -/
abbrev DSp := List D → Mem → (D → Mem → Prop) → Prop
/-- what holds behind a call -/
structure Aft (K : PySem.W.Frag) (bx : List Addr) (M : Addr → Prop) (H H' : Hp) (μ' : Mem) : Prop where
  keep : ∀ a o, a ∉ bx → H a = some o → H' a = some o
  blen : μ'.length = bx.length
  box : ∀ (i : Nat) (a : Addr) (l : List D), bx[i]? = some a → μ'[i]? = some l → ∃ xs, H' a = some (.lst xs) ∧ Rps K bx M H' l xs
def spD (K : PySem.W.Frag) (F : DSp) : Sp := fun vs H Q _ => ∃ (bx : List Addr) (M : Addr → Prop) (ds : List D) (μ : Mem) (Gd : D → Mem → Prop),
  SR ⟨K, bx, M, H, []⟩ M [] H [] μ ∧ Rps K bx M H ds vs ∧ F ds μ Gd ∧ ∀ v H' d μ', Aft K bx M H H' μ' → Rp K bx M H' d v → Gd d μ' → Q v H'
def startD (n : Nat) (ds : List D) : DSt := ds.map some ++ List.replicate (n - ds.length) none
theorem start_sr {K : PySem.W.Frag} {bx : List Addr} {M : Addr → Prop} {H : Hp} {μ : Mem} {N : List Str} {ds : List D} {vs : List V} (S : SR ⟨K, bx, M, H, []⟩ M [] H [] μ) (r : Rps K bx M H ds vs) : SR ⟨K, bx, M, H, []⟩ M (start N vs) H (startD N.length ds) μ := by
  have hl := r.len
  have at' : ∀ {i : Nat} {d : D}, (startD N.length ds)[i]? = some (some d) → ds[i]? = some d := fun {i d} e => by
    unfold startD at e
    by_cases hi : i < ds.length
    · rw [List.getElem?_append_left (by simpa using hi), List.getElem?_map] at e
      cases q : ds[i]? with
      | none => rw [q] at e; cases e
      | some x => rw [q] at e; cases e; rfl
    · rw [List.getElem?_append_right (by simpa using hi), List.getElem?_replicate] at e
      split at e <;> cases e
  have get : ∀ {i : Nat} {v : V}, vs[i]? = some v → (start N vs)[i]? = some (some v) := fun {i v} e => by
    unfold L2.start
    have hi := (List.getElem?_eq_some_iff.mp e).1
    rw [List.getElem?_append_left (by simpa using hi), List.getElem?_map, e]; rfl
  refine ⟨by unfold L2.start startD; simp [hl], fun i d e => ?_, fun i j p l l' e1 e2 => ?_, S.blen, S.box, S.keep, S.m0, S.fr, S.mt, S.nd, S.bm, S.m0t⟩
  · obtain ⟨v, e1, r1⟩ := r.get (at' e)
    exact ⟨v, get e1, .of r1⟩
  · obtain ⟨v, e3, r3⟩ := r.get (at' e1)
    exact (show False from r3).elim
section
variable {P : Program} {w : World} {K : PySem.W.Frag} {mg : Str → Option Value} {base : Heap}
abbrev bX (P : Program) (w : World) (K : PySem.W.Frag) (mg : Str → Option Value) (base : Heap) (N : List Str) (qual : Str) (st : Stmt) (f : Addr) (cdv : Value) (A : Around) (out : List Env) (s : Shared) (H : Hp) (E : XK) : Cx :=
  (cxOf CX0 P w K mg base N qual (defScope st) f cdv A out s H E).nox
theorem okD {x qual : Str} {st : Stmt} {f : Addr} {fd : FuncData} {N ps : List Str} {k : Nat} {F : DSp} (Fu : Fun K x qual st f fd) (S : FnScope N ps (defScope st)) (cnt : ∀ ds μ Gd, F ds μ Gd → ds.length = ps.length)
    (bd : ∀ (cdv : Value) (A : Around) (out : List Env) (s : Shared) (H : Hp) (E : XK), (bX P w K mg base N qual st f cdv A out s H E).A.guards = some [] → Room k (bX P w K mg base N qual st f cdv A out s H E).A →
      ∃ t, DSs (bX P w K mg base N qual st f cdv A out s H E) (defBody st) t ∧ ∀ ds μ Gd, F ds μ Gd → t { nx := fun _ μ' => Gd .non μ', rt := Gd } (startD N.length ds) μ) : FnG P w K mg base (k + 1) f fd ps (spD K F) := by
  refine fnG_of Fu S (fun vs H Q E h => ?_) fun cdv A out s H vs Q E hg hr h => ?_
  · obtain ⟨bx, M, ds, μ, Gd, S0, r, q, _⟩ := h
    rw [r.len]; exact cnt _ _ _ q
  · obtain ⟨bx, M, ds, μ, Gd, S0, r, q, fin⟩ := h
    obtain ⟨t, hd, ht⟩ := bd cdv A out s H E hg hr
    obtain ⟨ts, p, snd⟩ := hd.ex
    refine ⟨ts, p, ?_⟩
    refine snd ⟨K, bx, M, H, []⟩ M (start N vs) H _ μ _ _ rfl (start_sr S0 r) (ht _ _ _ q) ⟨?_, ?_, fun _ _ _ _ _ _ z => z.elim, fun _ _ _ _ _ _ z => z.elim⟩
    · intro M' σ' H' σd' μ' S' q'
      exact fin .non H' .non μ' ⟨S'.keep, S'.blen, fun i a l e1 e2 => by
        obtain ⟨xs, h1, h2⟩ := S'.box i a l e1 e2
        exact ⟨xs, h1, Rps.stay (fun a o m e => ⟨e, fun z => m (S'.m0 a z)⟩) _ _ h2⟩⟩ rfl q'
    · intro M' σ' H' σd' μ' v d S' r' q'
      have k : Kp M' M H' H' := fun a o m e => ⟨e, fun z => m (S'.m0 a z)⟩
      exact fin v H' d μ' ⟨S'.keep, S'.blen, fun i a l e1 e2 => by
        obtain ⟨xs, h1, h2⟩ := S'.box i a l e1 e2
        exact ⟨xs, h1, Rps.stay k _ _ h2⟩⟩ (Rp.stay k _ _ r') q'
end
theorem SR.after {G : Gm} {M : Addr → Prop} {σ : St} {H H' : Hp} {σd : DSt} {μ μ' : Mem} (S : SR G M σ H σd μ) (A : Aft G.K G.bx M H H' μ') : SR G M σ H' σd μ' := by
  have mb : ∀ a, ¬ M a → a ∉ G.bx := fun a m z => m (S.m0 a (S.bm a z))
  have k : Kp M M H H' := fun a o m e => ⟨A.keep a o (mb a m) e, m⟩
  refine ⟨S.len, fun i d e => ?_, S.dist, A.blen, A.box, fun a o h1 h2 => A.keep a o h1 (S.keep a o h1 h2), S.m0, fun q hq => Rp.stay k _ _ (S.fr q hq), fun a m => ?_, S.nd, S.bm, S.m0t⟩
  · obtain ⟨v, e1, r⟩ := S.slot i d e
    refine ⟨v, e1, r.stay k fun p l m h0 hp => ⟨m, A.keep p _ (fun z => ?_) hp⟩⟩
    obtain ⟨o, q⟩ := S.m0t p (S.bm p z)
    rw [h0] at q; cases q
  · by_cases hb : a ∈ G.bx
    · obtain ⟨i, hi⟩ := List.mem_iff_getElem?.mp hb
      have il : i < μ'.length := by rw [A.blen]; exact (List.getElem?_eq_some_iff.mp hi).1
      obtain ⟨xs, h1, _⟩ := A.box i a _ hi (List.getElem?_eq_getElem il)
      exact ⟨_, h1⟩
    · obtain ⟨o, e⟩ := S.mt a m
      exact ⟨o, A.keep a o hb e⟩
theorem SR.entry {G : Gm} {M : Addr → Prop} {σ : St} {H : Hp} {σd : DSt} {μ : Mem} (S : SR G M σ H σd μ) : SR ⟨G.K, G.bx, M, H, []⟩ M [] H [] μ :=
  ⟨rfl, fun i d e => by simp at e, fun i j p l l' e => by simp at e, S.blen, S.box, fun _ _ _ e => e, fun _ m => m, fun _ z => (nomatch z), S.mt, S.nd, fun a z => S.m0 a (S.bm a z), S.mt⟩
def dCall (F : DSp) (t : DTA) : DTE := fun σd μ Q => t σd μ fun ds μ1 => F ds μ1 Q
theorem de_call {k : Nat} {f : Addr} {fd : FuncData} {ps : List Str} {F : DSp} {x : Str} {p : Pos} {es : List Expr} {tr : DTA} (Fn : FnG X.prog X.w X.K X.mg X.base k f fd ps (spD X.K F)) (hg : X.A.guards = some []) (hr : Room k X.A) (gl : Gl X x) (hm : X.mg x = some (.ref f)) (hk : PySem.W.keepIn X.K (.ref f) = true) (hb : Binds X.K fd ps [])
    (ha : DA X (e :: es) tr) (hdb : (x == ("__debug__" : Str)) = false := by decide) (he : starEach (e :: es) X.env = (false, eval e X.env) :: starEach es X.env := by rfl) (hpl : (backTo pos (starEach es X.env)).any (·.1) = false := by rfl) :
    DE X (.Call (.Name x p) (e :: es) [] pos) (dCall F tr) := by
  obtain ⟨te, p, h⟩ := ha.ex
  refine ⟨_, pe_callG Fn hg hr gl hm hk hb p hdb he hpl, fun G M σ H σd μ Q R hK S q kk => ?_⟩
  refine h G M σ H σd μ _ _ hK S q fun vs H1 ds μ1 S1 r1 q1 => ?_
  refine ⟨G.bx, M, ds, μ1, Q, by rw [← hK]; exact S1.entry, by rw [← hK]; exact r1, q1, fun v H' d μ' A r q => ?_⟩
  rw [← hK] at A r
  exact kk v H' d μ' (S1.after A) r q
end
end DL

set_option maxRecDepth 100000
namespace DL
open PySem PySem.Spec L2
/-! ### what a loop walks -/
def Gm.pinL (G : Gm) (F : List (V × D)) : Gm := { G with Fr := F ++ G.Fr }
theorem SR.unpinL {G : Gm} {M : Addr → Prop} {σ : St} {H : Hp} {σd : DSt} {μ : Mem} {F : List (V × D)} (S : SR (G.pinL F) M σ H σd μ) : SR G M σ H σd μ := by
  refine ⟨S.len, fun i d e => ?_, S.dist, S.blen, S.box, S.keep, S.m0, fun q hq => S.fr q (List.mem_append_right _ hq), S.mt, S.nd, S.bm, S.m0t⟩
  obtain ⟨v, e1, q⟩ := S.slot i d e
  exact ⟨v, e1, by cases d <;> exact q⟩
theorem SR.pinL {G : Gm} {M : Addr → Prop} {σ : St} {H : Hp} {σd : DSt} {μ : Mem} {F : List (V × D)} (S : SR G M σ H σd μ) (h : ∀ q ∈ F, Rp G.K G.bx M H q.2 q.1) : SR (G.pinL F) M σ H σd μ := by
  refine ⟨S.len, fun i d e => ?_, S.dist, S.blen, S.box, S.keep, S.m0, fun q hq => (List.mem_append.mp hq).elim (h q) (S.fr q), S.mt, S.nd, S.bm, S.m0t⟩
  obtain ⟨v, e1, q⟩ := S.slot i d e
  exact ⟨v, e1, by cases d <;> exact q⟩
theorem Lk.pinL {G : Gm} {De : DEnds} {E : Ends} {F : List (V × D)} (L : Lk G De E) : Lk (G.pinL F) De E :=
  ⟨fun _ _ _ _ _ S => L.nx _ _ _ _ _ S.unpinL, fun _ _ _ _ _ _ _ S => L.rt _ _ _ _ _ _ _ S.unpinL, fun _ _ _ _ _ S => L.bk _ _ _ _ _ S.unpinL, fun _ _ _ _ _ S => L.ct _ _ _ _ _ S.unpinL⟩
structure ItOk (K : PySem.W.Frag) (bx : List Addr) (F : List (V × D)) (J : It) (items : List D) : Prop where
  go : ∀ (G : Gm) M σ H σd μ i, G.K = K → G.bx = bx → (∀ q ∈ F, q ∈ G.Fr) → SR G M σ H σd μ → i < items.length → J.go i H
  stop : ∀ (G : Gm) M σ H σd μ, G.K = K → G.bx = bx → (∀ q ∈ F, q ∈ G.Fr) → SR G M σ H σd μ → J.stop items.length H
  yld : ∀ (G : Gm) M σ H σd μ i x H' d, G.K = K → G.bx = bx → (∀ q ∈ F, q ∈ G.Fr) → SR G M σ H σd μ → items[i]? = some d → J.yld i H x H' → SR G M σ H' σd μ ∧ Rp G.K G.bx M H' d x
abbrev DTI := DSt → Mem → (List D → Mem → Prop) → Prop
structure DI (X : Cx) (tg iter : Expr) (ti : DTI) : Prop where
  ex : ∃ wi : TI, PI X tg iter wi ∧ ∀ (G : Gm) (M : Addr → Prop) (σ : St) (H : Hp) (σd : DSt) (μ : Mem) (Q : List D → Mem → Prop) (R : It → Hp → Prop), G.K = X.K → SR G M σ H σd μ → ti σd μ Q →
    (∀ (F : List (V × D)) J H' items μ', SR (G.pinL F) M σ H' σd μ' → ItOk G.K G.bx F J items → Q items μ' → R J H') → wi σ H R
section
variable {X : Cx} {e a b c tg : Expr} {t ta tb tc : DTE} {pos : Pos} {st : Stmt} {sts : List Stmt} {u u' : DTS}
/-- items of a value that stands still -/
def stOf : D → Option (List D)
  | .lst l => some l
  | .tup l => some l
  | .frz l => some l
  | _ => none
theorem st_lst {K : PySem.W.Frag} {bx M H} {d : D} {l : List D} {v : V} (r : Rp K bx M H d v) (e : stOf d = some l) : ∃ a, v = .ref a ∧ ((∃ xs, SqL K H a xs ∧ Rps K bx M H l xs ∧ ∀ l', d ≠ .tup l') ∨ (∃ xs, SqT K H a xs ∧ Rps K bx M H l xs ∧ d = .tup l)) := by
  cases d with
  | lst l' =>
    obtain rfl : l' = l := Option.some.inj e
    obtain ⟨a, xs, rfl, o, r⟩ := r
    exact ⟨a, rfl, .inl ⟨xs, o.sq, r, fun _ z => nomatch z⟩⟩
  | frz l' =>
    obtain rfl : l' = l := Option.some.inj e
    obtain ⟨a, xs, rfl, o, r⟩ := r
    exact ⟨a, rfl, .inl ⟨xs, o.sq, r, fun _ z => nomatch z⟩⟩
  | tup l' =>
    obtain rfl : l' = l := Option.some.inj e
    obtain ⟨a, xs, rfl, o, r⟩ := r
    exact ⟨a, rfl, .inr ⟨xs, o.sq, r, rfl⟩⟩
  | _ => cases e
theorem pi_or {wi wi' : TI} (h : PI X tg e wi) (h' : PI X tg e wi') : PI X tg e (fun σ H R => wi σ H R ∨ wi' σ H R) := by
  refine ⟨fun pins s σ H R I q => ?_⟩
  rcases q with q | q
  · exact h.run pins s σ H R I q
  · exact h'.run pins s σ H R I q
def dItL (t : DTE) : DTI := fun σd μ Q => t σd μ fun d μ1 => ∃ l, (d = .lst l ∨ d = .frz l) ∧ Q l μ1
theorem di_list (he : DE X e t) : DI X tg e (dItL t) := by
  obtain ⟨te, p, h⟩ := he.ex
  refine ⟨_, pi_list p, fun G M σ H σd μ Q R hK S q k => ?_⟩
  refine h G M σ H σd μ _ _ hK S q fun v H1 d μ1 S1 r1 q1 => ?_
  obtain ⟨l, e1, q1⟩ := q1
  have e1' : stOf d = some l := by rcases e1 with rfl | rfl <;> rfl
  have nt : ∀ l', d ≠ .tup l' := by rcases e1 with rfl | rfl <;> exact fun _ z => nomatch z
  obtain ⟨a, rfl, hh⟩ := st_lst r1 e1'
  have hx : ∃ xs, SqL G.K H1 a xs ∧ Rps G.K G.bx M H1 l xs := by
    rcases hh with ⟨xs, h1, h2, _⟩ | ⟨xs, _, _, h3⟩
    · exact ⟨xs, h1, h2⟩
    · exact absurd h3 (nt _)
  obtain ⟨xs, h1, h2⟩ := hx
  have again : ∀ (G' : Gm) M σ H σd μ, G'.K = G.K → G'.bx = G.bx → (∀ q ∈ [(V.ref a, d)], q ∈ G'.Fr) → SR G' M σ H σd μ → ∃ xs, SqL X.K H a xs ∧ Rps G'.K G'.bx M H l xs := fun G' M σ H σd μ eK eb hF S' => by
    have r := S'.fr _ (hF _ (List.mem_singleton.mpr rfl))
    obtain ⟨a', ea, hh⟩ := st_lst r e1'
    cases ea
    rcases hh with ⟨xs, h1, h2, _⟩ | ⟨xs, _, _, h3⟩
    · exact ⟨xs, by rw [← hK, ← eK]; exact h1, h2⟩
    · exact absurd h3 (nt _)
  refine ⟨a, rfl, ⟨xs, by rw [← hK]; exact h1⟩, k [(.ref a, d)] _ _ l μ1 (S1.pinL fun q hq => by rw [List.mem_singleton.mp hq]; exact r1) ⟨?_, ?_, ?_⟩ q1⟩
  · intro G' M σ H σd μ i eK eb hF S' hi
    obtain ⟨xs, h1, h2⟩ := again G' M σ H σd μ eK eb hF S'
    obtain ⟨v, e3, _⟩ := h2.get (List.getElem?_eq_getElem hi)
    exact ⟨xs, v, h1, e3⟩
  · intro G' M σ H σd μ eK eb hF S'
    obtain ⟨xs, h1, h2⟩ := again G' M σ H σd μ eK eb hF S'
    exact ⟨xs, h1, by rw [h2.len]; exact Nat.le_refl _⟩
  · intro G' M σ H σd μ i x H' d' eK eb hF S' hi y
    obtain ⟨rfl, y⟩ := y
    obtain ⟨xs, h1, h2⟩ := again G' M σ H' σd μ eK eb hF S'
    obtain ⟨v, e3, r3⟩ := h2.get hi
    have := y xs h1
    rw [e3] at this; cases this
    exact ⟨S', r3⟩
def dItT (t : DTE) : DTI := fun σd μ Q => t σd μ fun d μ1 => ∃ l, d = .tup l ∧ Q l μ1
theorem di_tup (he : DE X e t) : DI X tg e (dItT t) := by
  obtain ⟨te, p, h⟩ := he.ex
  refine ⟨_, pi_tup p, fun G M σ H σd μ Q R hK S q k => ?_⟩
  refine h G M σ H σd μ _ _ hK S q fun v H1 d μ1 S1 r1 q1 => ?_
  obtain ⟨l, rfl, q1⟩ := q1
  obtain ⟨a, xs, rfl, h1, h2⟩ := id r1
  have again : ∀ (G' : Gm) M σ H σd μ, G'.K = G.K → G'.bx = G.bx → (∀ q ∈ [(V.ref a, D.tup l)], q ∈ G'.Fr) → SR G' M σ H σd μ → ∃ xs, SqT X.K H a xs ∧ Rps G'.K G'.bx M H l xs := fun G' M σ H σd μ eK eb hF S' => by
    obtain ⟨a', xs, ea, h1, h2⟩ := S'.fr _ (hF _ (List.mem_singleton.mpr rfl))
    cases ea
    exact ⟨xs, by rw [← hK, ← eK]; exact h1.sq, h2⟩
  refine ⟨a, rfl, ⟨xs, by rw [← hK]; exact h1.sq⟩, k [(.ref a, .tup l)] _ _ l μ1 (S1.pinL fun q hq => by rw [List.mem_singleton.mp hq]; exact r1) ⟨?_, ?_, ?_⟩ q1⟩
  · intro G' M σ H σd μ i eK eb hF S' hi
    obtain ⟨xs, h1, h2⟩ := again G' M σ H σd μ eK eb hF S'
    obtain ⟨v, e3, _⟩ := h2.get (List.getElem?_eq_getElem hi)
    exact ⟨xs, v, h1, e3⟩
  · intro G' M σ H σd μ eK eb hF S'
    obtain ⟨xs, h1, h2⟩ := again G' M σ H σd μ eK eb hF S'
    exact ⟨xs, h1, by rw [h2.len]; exact Nat.le_refl _⟩
  · intro G' M σ H σd μ i x H' d' eK eb hF S' hi y
    obtain ⟨rfl, y⟩ := y
    obtain ⟨xs, h1, h2⟩ := again G' M σ H' σd μ eK eb hF S'
    obtain ⟨v, e3, r3⟩ := h2.get hi
    have := y xs h1
    rw [e3] at this; cases this
    exact ⟨S', r3⟩
/-- the ints lo, lo + 1, .., n of them -/
def rngD (lo : Int) (n : Nat) : List D := (List.range n).map fun (i : Nat) => D.int (lo + (i : Int))
theorem rngD_len (lo : Int) (n : Nat) : (rngD lo n).length = n := by unfold rngD; simp
theorem rng_it {K : PySem.W.Frag} {bx : List Addr} (lo : Int) (n : Nat) : ItOk K bx [] (Itr lo n) (rngD lo n) := by
  refine ⟨?_, ?_, ?_⟩
  · intro G' M σ H σd μ i eK eb hF S' hi
    rw [rngD_len] at hi
    exact hi
  · intro G' M σ H σd μ eK eb hF S'
    rw [rngD_len]
    exact Nat.le_refl n
  · intro G' M σ H σd μ i x H' d' eK eb hF S' hi y
    obtain ⟨rfl, rfl⟩ := y
    unfold rngD at hi
    rw [List.getElem?_map] at hi
    cases q : (List.range n)[i]? with
    | none => rw [q] at hi; cases hi
    | some j =>
      rw [q] at hi
      obtain ⟨_, e⟩ := List.getElem?_eq_some_iff.mp q
      rw [List.getElem_range] at e
      subst e
      cases hi
      exact ⟨S', rfl⟩
def dRng1 (t : DTA) : DTI := fun σd μ Q => t σd μ fun ds μ1 => ∃ j : Int, ds = [.int j] ∧ (-(2 ^ 62) ≤ j ∧ j < 2 ^ 62) ∧ Q (rngD 0 j.toNat) μ1
theorem di_range1 {ta : DTA} {p pos : Pos} (hg : Gl X "range") (hm : X.mg "range" = none) (ha : DA X [a] ta) (hp : ∀ ta', PA X [a] ta' → PI X tg (.Call (.Name "range" p) [a] [] pos) (iRng1 ta') := by exact fun _ p => pi_range1 (by rfl) (by assumption) p) : DI X tg (.Call (.Name "range" p) [a] [] pos) (dRng1 ta) := by
  obtain ⟨te, p, h⟩ := ha.ex
  refine ⟨_, hp _ p, fun G M σ H σd μ Q R hK S q k => ?_⟩
  refine h G M σ H σd μ _ _ hK S q fun vs H1 ds μ1 S1 r1 q1 => ?_
  obtain ⟨j, rfl, hj, q1⟩ := q1
  obtain ⟨v, rfl, r⟩ := rps1 r1
  exact ⟨j, by rw [show v = .int j from r], hj.1, hj.2, k [] _ _ _ _ (S1.pinL fun q hq => nomatch hq) (rng_it 0 j.toNat) q1⟩
def dRng2 (t : DTA) : DTI := fun σd μ Q => t σd μ fun ds μ1 => ∃ i j : Int, ds = [.int i, .int j] ∧ (-(2 ^ 62) ≤ i ∧ i < 2 ^ 62 ∧ -(2 ^ 62) ≤ j ∧ j < 2 ^ 62) ∧ Q (rngD i (j - i).toNat) μ1
theorem di_range2 {ta : DTA} {p pos : Pos} (ha : DA X [a, b] ta) (hp : ∀ ta', PA X [a, b] ta' → PI X tg (.Call (.Name "range" p) [a, b] [] pos) (iRng2 ta')) : DI X tg (.Call (.Name "range" p) [a, b] [] pos) (dRng2 ta) := by
  obtain ⟨te, p, h⟩ := ha.ex
  refine ⟨_, hp _ p, fun G M σ H σd μ Q R hK S q k => ?_⟩
  refine h G M σ H σd μ _ _ hK S q fun vs H1 ds μ1 S1 r1 q1 => ?_
  obtain ⟨i, j, rfl, hj, q1⟩ := q1
  obtain ⟨v, v', rfl, r, r'⟩ := rps2 r1
  exact ⟨i, j, by rw [show v = .int i from r, show v' = .int j from r'], hj, k [] _ _ _ _ (S1.pinL fun q hq => nomatch hq) (rng_it i (j - i).toNat) q1⟩
/-! ### for -/
def dLoop (g : DTG) (tb : DTS) (De : DEnds) : List D → DSt → Mem → Prop
  | [], σd, μ => De.nx σd μ
  | x :: r, σd, μ => g x σd μ fun σ2 μ2 => tb { nx := dLoop g tb De r, rt := De.rt, bk := De.nx, ct := dLoop g tb De r } σ2 μ2
def dFor (ti : DTI) (g : DTG) (tb : DTS) : DTS := fun De σd μ => ti σd μ fun items μ1 => dLoop g tb De items σd μ1
theorem ds_for {iter : Expr} {body : List Stmt} {ti : DTI} {g : DTG} (hi : DI X tg iter ti) (hg : DG X tg g) (hb : DSs X body u)
    (hp : ∀ wi g' tb, PI X tg iter wi → PG X tg g' → PSs X body tb → PS X (.For tg iter body [] pos) (tFor wi g' tb) := by exact fun _ _ _ a b c => ps_for PassesOwn.never rfl a b c) : DS X (.For tg iter body [] pos) (dFor ti g u) := by
  obtain ⟨wi, p1, h1⟩ := hi.ex
  obtain ⟨g', p2, h2⟩ := hg.ex
  obtain ⟨tb, p3, h3⟩ := hb.ex
  refine ⟨_, hp _ _ _ p1 p2 p3, fun G M σ H σd μ De E hK S q L => ?_⟩
  refine h1 G M σ H σd μ _ _ hK S q fun F J H1 items μ1 S1 ok q1 => ?_
  have mF : ∀ q ∈ F, q ∈ (G.pinL F).Fr := fun q hq => List.mem_append_left _ hq
  refine ⟨fun i m σ' H' => m = items.length - i ∧ i ≤ items.length ∧ ∃ M σd μ, SR (G.pinL F) M σ' H' σd μ ∧ dLoop g u De (items.drop i) σd μ,
    ⟨items.length, rfl, Nat.zero_le _, M, σd, μ1, S1, q1⟩, ?_⟩
  rintro i m σ2 H2 ⟨rfl, hi, M2, σd2, μ2, S2, q2⟩
  by_cases hlt : i < items.length
  · refine .inr ⟨ok.go (G.pinL F) M2 σ2 H2 σd2 μ2 i rfl rfl mF S2 hlt, fun σ' H' => ∃ M σd μ, SR (G.pinL F) M σ' H' σd μ ∧ dLoop g u De (items.drop (i + 1)) σd μ, ?_, ?_⟩
    · rintro σ3 H3 ⟨M3, σd3, μ3, S3, q3⟩
      exact ⟨items.length - (i + 1), by omega, rfl, hlt, M3, σd3, μ3, S3, q3⟩
    · intro x H3 y
      rw [List.drop_eq_getElem_cons hlt] at q2
      obtain ⟨S3, r3⟩ := ok.yld (G.pinL F) M2 σ2 H2 σd2 μ2 i x H3 items[i] rfl rfl mF S2 (List.getElem?_eq_getElem hlt) y
      refine h2 (G.pinL F) M2 σ2 H3 σd2 μ2 items[i] x _ _ hK S3 r3 q2 fun σ4 H4 σd4 μ4 S4 q4 => ?_
      exact h3 (G.pinL F) M2 σ4 H4 σd4 μ4 _ _ hK S4 q4
        ⟨fun M5 σ5 H5 σd5 μ5 S5 q5 => ⟨M5, σd5, μ5, S5, q5⟩, L.pinL.rt, fun M5 σ5 H5 σd5 μ5 S5 q5 => L.pinL.nx _ _ _ _ _ S5 q5, fun M5 σ5 H5 σd5 μ5 S5 q5 => ⟨M5, σd5, μ5, S5, q5⟩⟩
  · have e : i = items.length := by omega
    subst e
    rw [List.drop_length] at q2
    exact .inl ⟨ok.stop (G.pinL F) M2 σ2 H2 σd2 μ2 rfl rfl mF S2, L.pinL.nx _ _ _ _ _ S2 q2⟩
/-! ### while -/
def dWhile (c : DTT) (tb : DTS) : DTS := fun De σd μ => ∃ W : Nat → DSt → Mem → Prop, (∃ m, W m σd μ) ∧ ∀ m σd μ, W m σd μ →
  c σd μ fun b μ1 => if b = true then ∃ N : DSt → Mem → Prop, (∀ σ' μ', N σ' μ' → ∃ m', m' < m ∧ W m' σ' μ') ∧ tb { nx := N, rt := De.rt, bk := De.nx, ct := N } σd μ1 else De.nx σd μ1
theorem ds_while {c : Expr} {body : List Stmt} {tc : DTT} (hc : DT X c tc) (hb : DSs X body u) (hp : ∀ tc' tb, PT X c tc' → PSs X body tb → PS X (.While c body [] pos) (tWhile tc' tb) := by exact fun _ _ a b => ps_while PassesOwn.never a b) : DS X (.While c body [] pos) (dWhile tc u) := by
  obtain ⟨tc', p1, h1⟩ := hc.ex
  obtain ⟨tb, p2, h2⟩ := hb.ex
  refine ⟨_, hp _ _ p1 p2, fun G M σ H σd μ De E hK S q L => ?_⟩
  obtain ⟨W, ⟨m0, w0⟩, step⟩ := q
  refine ⟨fun m σ' H' => ∃ M σd μ, SR G M σ' H' σd μ ∧ W m σd μ, ⟨m0, M, σd, μ, S, w0⟩, ?_⟩
  rintro m σ1 H1 ⟨M1, σd1, μ1, S1, w1⟩
  refine h1 G M1 σ1 H1 σd1 μ1 _ _ hK S1 (step m σd1 μ1 w1) fun b H2 μ2 S2 q2 => ?_
  cases b with
  | false =>
    rw [if_neg (by decide)] at q2 ⊢
    exact L.nx _ _ _ _ _ S2 q2
  | true =>
    rw [if_pos rfl] at q2 ⊢
    obtain ⟨N, hN, q2⟩ := q2
    refine ⟨fun σ' H' => ∃ M σd μ, SR G M σ' H' σd μ ∧ N σd μ, ?_, ?_⟩
    · rintro σ3 H3 ⟨M3, σd3, μ3, S3, n3⟩
      obtain ⟨m', hm, w⟩ := hN σd3 μ3 n3
      exact ⟨m', hm, M3, σd3, μ3, S3, w⟩
    · exact h2 G M1 σ1 H2 σd1 μ2 _ _ hK S2 q2 ⟨fun M5 σ5 H5 σd5 μ5 S5 q5 => ⟨M5, σd5, μ5, S5, q5⟩, L.rt, fun M5 σ5 H5 σd5 μ5 S5 q5 => L.nx _ _ _ _ _ S5 q5, fun M5 σ5 H5 σd5 μ5 S5 q5 => ⟨M5, σd5, μ5, S5, q5⟩⟩
end
end DL

set_option maxRecDepth 100000
namespace DL
open PySem PySem.Spec L2
/-! ### comprehensions -/
def hid : D → Option D
  | .own _ => none
  | d => some d
def wipeD (σd : DSt) : List Nat → DSt
  | [] => σd
  | v :: vs => (wipeD σd vs).set v none
def hideD (σd : DSt) (vs : List Nat) : DSt := wipeD (σd.map fun o => o.bind hid) vs
theorem wipeD_len (σd : DSt) : ∀ vs : List Nat, (wipeD σd vs).length = σd.length
  | [] => rfl
  | v :: vs => by unfold wipeD; rw [List.length_set, wipeD_len σd vs]
theorem wipeD_some {σd : DSt} {i : Nat} {d : D} : ∀ {vs : List Nat}, (wipeD σd vs)[i]? = some (some d) → σd[i]? = some (some d) ∧ i ∉ vs
  | [], h => ⟨h, fun z => nomatch z⟩
  | v :: vs, h => by
    unfold wipeD at h
    by_cases hv : i = v
    · subst hv
      by_cases hl : i < (wipeD σd vs).length
      · rw [List.getElem?_set_self hl] at h; cases h
      · rw [List.getElem?_eq_none (by rw [List.length_set]; omega)] at h; cases h
    · rw [List.getElem?_set_ne (Ne.symm hv)] at h
      obtain ⟨h1, h2⟩ := wipeD_some h
      exact ⟨h1, fun z => (List.mem_cons.mp z).elim hv h2⟩
theorem wipe_at {σ : St} {i : Nat} : ∀ {vs : List Nat}, i ∉ vs → (wipe σ vs)[i]? = σ[i]?
  | [], _ => rfl
  | v :: vs, h => by
    unfold wipe
    rw [List.getElem?_set_ne (fun z => h (by rw [z]; exact List.mem_cons_self))]
    exact wipe_at fun z => h (List.mem_cons_of_mem _ z)
theorem Aft.refl {K bx M H} {μ : Mem} (hl : μ.length = bx.length) (hb : ∀ (i : Nat) (a : Addr) (l : List D), bx[i]? = some a → μ[i]? = some l → ∃ xs, H a = some (.lst xs) ∧ Rps K bx M H l xs) : Aft K bx M H H μ := ⟨fun _ _ _ e => e, hl, hb⟩
/-- a block's state within the frame's: the new list at Dn is not to be touched, lists of one's own are hidden -/
theorem SR.sub {G : Gm} {M : Addr → Prop} {σ : St} {H H' : Hp} {σd : DSt} {μ μ' : Mem} {Dn : Addr} {o : HO} (vs : List Nat) (S : SR G M σ H σd μ) (A : Aft G.K G.bx (fun a => M a ∨ a = Dn) H H' μ') (hn : H Dn = none) (hd : H' Dn = some o) :
    SR ⟨G.K, G.bx, fun a => M a ∨ a = Dn, H', G.Fr⟩ (fun a => M a ∨ a = Dn) (wipe σ vs) H' (hideD σd vs) μ' := by
  have mb : ∀ a, ¬ M a → a ∉ G.bx := fun a m z => m (S.m0 a (S.bm a z))
  have k : Kp M (fun a => M a ∨ a = Dn) H H' := fun a o m e => ⟨A.keep a o (mb a m) e, fun z => z.elim m fun z => by rw [z, hn] at e; cases e⟩
  have tr : ∀ a, (M a ∨ a = Dn) → ∃ o, H' a = some o := fun a m => by
    rcases m with m | rfl
    · by_cases hb : a ∈ G.bx
      · obtain ⟨i, hi⟩ := List.mem_iff_getElem?.mp hb
        have il : i < μ'.length := by rw [A.blen]; exact (List.getElem?_eq_some_iff.mp hi).1
        obtain ⟨xs, h1, _⟩ := A.box i a _ hi (List.getElem?_eq_getElem il)
        exact ⟨_, h1⟩
      · obtain ⟨o, e⟩ := S.mt a m
        exact ⟨o, A.keep a o hb e⟩
    · exact ⟨o, hd⟩
  have sl : ∀ {i : Nat} {d : D}, (hideD σd vs)[i]? = some (some d) → σd[i]? = some (some d) ∧ i ∉ vs ∧ ∀ l, d ≠ .own l := fun {i d} e => by
    obtain ⟨e1, e2⟩ := wipeD_some e
    rw [List.getElem?_map] at e1
    cases q : σd[i]? with
    | none => rw [q] at e1; cases e1
    | some x =>
      rw [q] at e1
      cases x with
      | none => cases e1
      | some d' =>
        have e1 : some (hid d') = some (some d) := e1
        cases d' with
        | own l => cases e1
        | _ => cases e1; exact ⟨rfl, e2, fun _ z => nomatch z⟩
  refine ⟨by rw [wipe_length]; unfold hideD; rw [wipeD_len, List.length_map]; exact S.len, fun i d e => ?_, fun i j p l l' e1 => absurd rfl ((sl e1).2.2 l), A.blen, A.box, fun _ _ _ e => e, fun _ m => m, fun q hq => Rp.stay k _ _ (S.fr q hq), tr, S.nd, fun a z => .inl (S.m0 a (S.bm a z)), tr⟩
  obtain ⟨e1, e2, e3⟩ := sl e
  obtain ⟨v, e4, r⟩ := S.slot i d e1
  refine ⟨v, by rw [wipe_at e2]; exact e4, .of ?_⟩
  cases d with
  | own l => exact absurd rfl (e3 l)
  | _ => exact Rp.stay k _ _ r
theorem Aft.of_sr {K : PySem.W.Frag} {bx : List Addr} {M : Addr → Prop} {H H' : Hp} {Fr : List (V × D)} {σ : St} {σd : DSt} {μ : Mem} (S : SR ⟨K, bx, M, H, Fr⟩ M σ H' σd μ) : Aft K bx M H H' μ := ⟨S.keep, S.blen, S.box⟩
theorem Aft.trans {K bx M H H1 H2} {μ1 μ2 : Mem} (a : Aft K bx M H H1 μ1) (b : Aft K bx M H1 H2 μ2) : Aft K bx M H H2 μ2 := ⟨fun c o h e => b.keep c o h (a.keep c o h e), b.blen, b.box⟩
/-- a target in a block: what it stores are the block's own names -/
def CG (K : PySem.W.Frag) (vs : List Nat) (g' : TG) (g : DTG) : Prop := ∀ (G : Gm) (M : Addr → Prop) (σ : St) (H : Hp) (σd : DSt) (μ : Mem) (d : D) (v : V) (Q : DSt → Mem → Prop) (R : St → Hp → Prop), G.K = K → SR G M σ H σd μ → Rp G.K G.bx M H d v → g d σd μ Q →
  (∀ σ' H' σd' μ', SR G M σ' H' σd' μ' → wipe σ' vs = wipe σ vs → Q σd' μ' → R σ' H') → g' v σ H R
theorem wipe_set {σ : St} {i : Nat} {x : Option V} : ∀ {vs : List Nat}, i ∈ vs → wipe (σ.set i x) vs = wipe σ vs
  | [], h => nomatch h
  | v :: vs, h => by
    unfold wipe
    by_cases hm : i ∈ vs
    · rw [wipe_set hm]
    · have e : i = v := (List.mem_cons.mp h).elim id fun z => absurd z hm
      subst e
      have : ∀ ws : List Nat, i ∉ ws → wipe (σ.set i x) ws = (wipe σ ws).set i x := fun ws => by
        induction ws with
        | nil => intro _; rfl
        | cons w ws ih =>
          intro hw
          unfold wipe
          rw [ih fun z => hw (List.mem_cons_of_mem _ z), List.set_comm _ _ (fun z => hw (by rw [z]; exact List.mem_cons_self))]
      rw [this vs hm, List.set_set]
theorem cg_name {K : PySem.W.Frag} {vs : List Nat} {i : Nat} (h : i ∈ vs) : CG K vs (gName i) (dgName i) := fun G M σ H σd μ d v Q R hK S r q k => k _ _ _ _ (S.set i r) (wipe_set h) q
theorem wipe_comm {σ : St} {i : Nat} : ∀ {vs : List Nat}, wipe (σ.set i none) vs = (wipe σ vs).set i none
  | [] => rfl
  | v :: vs => by
    unfold wipe
    rw [wipe_comm]
    by_cases h : i = v
    · subst h; rfl
    · rw [List.set_comm _ _ h]
theorem wipe_wipe (σ : St) : ∀ vs : List Nat, wipe (wipe σ vs) vs = wipe σ vs
  | [] => rfl
  | v :: vs => by
    show wipe ((wipe σ vs).set v none) (v :: vs) = (wipe σ vs).set v none
    show (wipe ((wipe σ vs).set v none) vs).set v none = (wipe σ vs).set v none
    rw [wipe_comm, wipe_wipe σ vs, List.set_set]
def gNs : List Nat → TGs
  | [] => gNil
  | i :: r => gCons (gName i) (gNs r)
def dgNs : List Nat → DTGs
  | [] => dgNil
  | i :: r => dgCons (dgName i) (dgNs r)
theorem cg_ns {vs : List Nat} : ∀ (is : List Nat), (∀ i ∈ is, i ∈ vs) → ∀ (G : Gm) (M : Addr → Prop) (σ : St) (H : Hp) (σd : DSt) (μ : Mem) (ds : List D) (xs : List V) (Q : DSt → Mem → Prop) (R : St → Hp → Prop), SR G M σ H σd μ → Rps G.K G.bx M H ds xs → dgNs is ds σd μ Q →
    (∀ σ' H' σd' μ', SR G M σ' H' σd' μ' → wipe σ' vs = wipe σ vs → Q σd' μ' → R σ' H') → gNs is xs σ H R
  | [], _, G, M, σ, H, σd, μ, ds, xs, Q, R, S, r, q, k => by
    obtain ⟨rfl, q⟩ := q
    exact ⟨r, k _ _ _ _ S rfl q⟩
  | i :: is, hi, G, M, σ, H, σd, μ, ds, xs, Q, R, S, r, q, k => by
    obtain ⟨d, dr, rfl, q⟩ := q
    obtain ⟨v, vr, rfl, r1, r2⟩ := r
    refine ⟨v, vr, rfl, ?_⟩
    exact cg_ns is (fun j hj => hi j (List.mem_cons_of_mem _ hj)) G M _ H _ μ dr vr Q R (S.set i r1) r2 q fun σ' H' σd' μ' S' w q' => k σ' H' σd' μ' S' (w.trans (wipe_set (hi i List.mem_cons_self))) q'
theorem cg_seq {K : PySem.W.Frag} {vs is : List Nat} {n : Nat} (h : ∀ i ∈ is, i ∈ vs) : CG K vs (fun v σ H Q => gTup K n (gNs is) v σ H Q ∨ gUnl K n (gNs is) v σ H Q) (dgSeq n (dgNs is)) := fun G M σ H σd μ d v Q R hK S r q k => by
  obtain ⟨l, e, hl, q⟩ := q
  obtain ⟨a, xs, rfl, hs, rs⟩ := sq_seq S r e
  rw [hK] at hs
  have go := cg_ns is h G M σ H σd μ l xs Q R S rs q k
  rcases hs with hs | hs
  · exact .inr ⟨a, xs, rfl, hs, by rw [rs.len]; exact hl, go⟩
  · exact .inl ⟨a, xs, rfl, hs, by rw [rs.len]; exact hl, go⟩
def dLcLoop (g : DTG) (tt : DTT) (te : DTE) (σw : DSt) : List D → List D → Mem → (List D → Mem → Prop) → Prop
  | [], acc, μ, Q => Q acc μ
  | x :: r, acc, μ, Q => g x σw μ fun σ2 μ2 => tt σ2 μ2 fun b μ3 => if b = true then te σ2 μ3 fun y μ4 => acc.length < sizeLine ∧ dLcLoop g tt te σw r (acc ++ [y]) μ4 Q else dLcLoop g tt te σw r acc μ3 Q
def dLc (ti : DTI) (g : DTG) (tt : DTT) (te : DTE) (vs : List Nat) : DTE := fun σd μ Q => ti σd μ fun items μ1 => dLcLoop g tt te (hideD σd vs) items [] μ1 fun acc μ2 => Q (.lst acc) μ2
def dYes : DTT := fun _ μ Q => Q true μ
section
variable {X : Cx} {elt tg iter : Expr} {ifs : List Expr} {scope : Scope} {own : List (Str × Nat)} {pos : Pos} {ti : DTI} {g' : TG} {g : DTG} {tt : DTT} {te : DTE} {tt' : TT}
/-- from the block's readings, whatever its context -/
theorem lc_snd {wi : TI} (hi : ∀ (G : Gm) (M : Addr → Prop) (σ : St) (H : Hp) (σd : DSt) (μ : Mem) (Q : List D → Mem → Prop) (R : It → Hp → Prop), G.K = X.K → SR G M σ H σd μ → ti σd μ Q →
      (∀ (F : List (V × D)) J H' items μ', SR (G.pinL F) M σ H' σd μ' → ItOk G.K G.bx F J items → Q items μ' → R J H') → wi σ H R) (hg : CG X.K (own.map (·.2)) g' g)
    (ht : ∀ (G : Gm) (M : Addr → Prop) (σ : St) (H : Hp) (σd : DSt) (μ : Mem) (Q : Bool → Mem → Prop) (R : Bool → Hp → Prop), G.K = X.K → SR G M σ H σd μ → tt σd μ Q → (∀ b H' μ', SR G M σ H' σd μ' → Q b μ' → R b H') → tt' σ H R)
    (G : Gm) (M : Addr → Prop) (σ : St) (H : Hp) (σd : DSt) (μ : Mem) (Q : D → Mem → Prop) (R : VK) (hK : G.K = X.K) (S : SR G M σ H σd μ) (hq : dLc ti g tt te (own.map (·.2)) σd μ Q)
    (k : ∀ v H' d μ', SR G M σ H' σd μ' → Rp G.K G.bx M H' d v → Q d μ' → R v H') : tLc wi g' tt' (liftE X.K te) (own.map (·.2)) σ H R := by
  refine hi G M σ H σd μ _ _ hK S hq fun F J H1 items μ1 S1 ok q1 => ?_
  intro Dn hn
  have nM : ¬ M Dn := fun m => by obtain ⟨o, e⟩ := S1.mt Dn m; rw [hn] at e; cases e
  have nb : Dn ∉ G.bx := fun z => nM (S1.m0 Dn (S1.bm Dn z))
  have kD : Kp M (fun a => M a ∨ a = Dn) H1 H1 := fun a o m e => ⟨e, fun z => z.elim m fun z => by rw [z, hn] at e; cases e⟩
  have kDn : ∀ {H2 : Hp} {o : HO}, Kp (fun a => M a ∨ a = Dn) (fun a => M a ∨ a = Dn) H2 (upd H2 Dn o) := fun {H2 o} a u m e => ⟨by rw [upd_ne (fun z => m (.inr z))]; exact e, m⟩
  have bxne : ∀ {i : Nat} {a : Addr}, G.bx[i]? = some a → a ≠ Dn := fun {i a} e z => nb (by rw [← z]; exact List.mem_of_getElem? e)
  refine ⟨fun i m H2 => m = items.length - i ∧ i ≤ items.length ∧ ∃ μ2 acc xs, Aft G.K G.bx (fun a => M a ∨ a = Dn) H1 H2 μ2 ∧ H2 Dn = some (.lst xs) ∧ Rps G.K G.bx (fun a => M a ∨ a = Dn) H2 acc xs ∧
      dLcLoop g tt te (hideD σd (own.map (·.2))) (items.drop i) acc μ2 fun acc μ2 => Q (.lst acc) μ2, ⟨items.length, rfl, Nat.zero_le _, μ1, [], [], ?_, upd_same, rfl, q1⟩, ?_⟩
  · refine ⟨fun a o _ e => by rw [upd_ne (ne_of_none e hn)]; exact e, S1.blen, fun i a l e1 e2 => ?_⟩
    obtain ⟨ys, h1, h2⟩ := S1.box i a l e1 e2
    exact ⟨ys, by rw [upd_ne (bxne e1)]; exact h1, Rps.stay kDn _ _ (Rps.stay kD _ _ h2)⟩
  · rintro i m H2 ⟨rfl, hi, μ2, acc, xs, A, hD, rs, q2⟩
    have S2 := S1.sub (own.map (·.2)) A hn hD
    have mF : ∀ q ∈ F, q ∈ (G.pinL F).Fr := fun q hq => List.mem_append_left _ hq
    by_cases hlt : i < items.length
    · refine .inr ⟨ok.go ⟨G.K, G.bx, fun a => M a ∨ a = Dn, H2, (G.pinL F).Fr⟩ _ _ H2 _ μ2 i rfl rfl mF S2 hlt, fun H' => ∃ μ2 acc xs, Aft G.K G.bx (fun a => M a ∨ a = Dn) H1 H' μ2 ∧ H' Dn = some (.lst xs) ∧ Rps G.K G.bx (fun a => M a ∨ a = Dn) H' acc xs ∧
          dLcLoop g tt te (hideD σd (own.map (·.2))) (items.drop (i + 1)) acc μ2 fun acc μ2 => Q (.lst acc) μ2, ?_, ?_⟩
      · rintro H3 ⟨μ3, acc3, xs3, h1, h2, h3, h4⟩
        exact ⟨items.length - (i + 1), by omega, rfl, hlt, μ3, acc3, xs3, h1, h2, h3, h4⟩
      · intro x H3 y
        rw [List.drop_eq_getElem_cons hlt] at q2
        obtain ⟨S3, r3⟩ := ok.yld ⟨G.K, G.bx, fun a => M a ∨ a = Dn, H2, (G.pinL F).Fr⟩ _ _ H2 _ μ2 i x H3 items[i] rfl rfl mF S2 (List.getElem?_eq_getElem hlt) y
        refine hg ⟨G.K, G.bx, fun a => M a ∨ a = Dn, H2, (G.pinL F).Fr⟩ _ _ H3 _ μ2 items[i] x _ _ hK S3 r3 q2 fun σ4 H4 σd4 μ4 S4 w4 q4 => ?_
        refine ⟨w4.trans ?_, ?_⟩
        · exact wipe_wipe σ _
        refine ht ⟨G.K, G.bx, fun a => M a ∨ a = Dn, H2, (G.pinL F).Fr⟩ _ σ4 H4 σd4 μ4 _ _ hK S4 q4 fun b H5 μ5 S5 q5 => ?_
        have back : ∀ {H6 : Hp} {μ6 : Mem}, SR ⟨G.K, G.bx, fun a => M a ∨ a = Dn, H2, (G.pinL F).Fr⟩ (fun a => M a ∨ a = Dn) σ4 H6 σd4 μ6 → Aft G.K G.bx (fun a => M a ∨ a = Dn) H1 H6 μ6 ∧ H6 Dn = some (.lst xs) ∧ Rps G.K G.bx (fun a => M a ∨ a = Dn) H6 acc xs := fun {H6 μ6} S6 => by
          refine ⟨A.trans (.of_sr S6), S6.keep Dn _ nb hD, ?_⟩
          exact Rps.stay (fun a o m e => ⟨S6.keep a o (fun z => m (.inl (S1.m0 a (S1.bm a z)))) e, m⟩) _ _ rs
        cases b with
        | false =>
          rw [if_neg (by decide)] at q5 ⊢
          obtain ⟨h1, h2, h3⟩ := back S5
          exact ⟨μ5, acc, xs, h1, h2, h3, q5⟩
        | true =>
          rw [if_pos rfl] at q5 ⊢
          refine ⟨⟨G.K, G.bx, fun a => M a ∨ a = Dn, H2, (G.pinL F).Fr⟩, _, σd4, μ5, _, hK, S5, q5, fun v H6 d μ6 S6 r6 q6 => ?_⟩
          obtain ⟨h1, h2, h3⟩ := back S6
          refine ⟨xs, h2, by rw [h3.len]; exact q6.1, μ6, acc ++ [d], xs ++ [v], ⟨fun a o hb e => by rw [upd_ne (ne_of_none e hn)]; exact h1.keep a o hb e, h1.blen, fun j a l e1 e2 => ?_⟩, upd_same, Rps.stay kDn _ _ (h3.app (.one r6)), q6.2⟩
          obtain ⟨ys, e3, r3⟩ := h1.box j a l e1 e2
          exact ⟨ys, by rw [upd_ne (bxne e1)]; exact e3, Rps.stay kDn _ _ r3⟩
    · have e : i = items.length := by omega
      subst e
      rw [List.drop_length] at q2
      have kM : Kp (fun a => M a ∨ a = Dn) M H2 H2 := fun a o m e => ⟨e, fun z => m (.inl z)⟩
      have A' : Aft G.K G.bx M H1 H2 μ2 := ⟨A.keep, A.blen, fun i a l e1 e2 => by obtain ⟨ys, h1, h2⟩ := A.box i a l e1 e2; exact ⟨ys, h1, Rps.stay kM _ _ h2⟩⟩
      exact .inl ⟨ok.stop ⟨G.K, G.bx, fun a => M a ∨ a = Dn, H2, (G.pinL F).Fr⟩ _ _ H2 _ μ2 rfl rfl mF S2, k (.ref Dn) H2 (.lst acc) μ2 (S1.unpinL.after A') ⟨Dn, xs, rfl, ⟨nM, hD⟩, Rps.stay kM _ _ rs⟩ q2⟩
theorem de_lc (hi : DI X tg iter ti) (hg : CG X.K (own.map (·.2)) g' g)
    (ht : ∃ tt', (∀ (s : Shared) (H : Hp) (C : Addr) (cl : List (Str × Addr)) (fp : List Addr), PTs (X.blk s H scope (compEnvC scope cl C X.env) fp) ifs tt') ∧
      ∀ (G : Gm) (M : Addr → Prop) (σ : St) (H : Hp) (σd : DSt) (μ : Mem) (Q : Bool → Mem → Prop) (R : Bool → Hp → Prop), G.K = X.K → SR G M σ H σd μ → tt σd μ Q → (∀ b H' μ', SR G M σ H' σd μ' → Q b μ' → R b H') → tt' σ H R)
    (he : ∀ (s : Shared) (H : Hp) (C : Addr) (cl : List (Str × Addr)) (fp : List Addr), DE (X.blk s H scope (compEnvC scope cl C X.env) fp) elt te)
    (hp : ∀ wi tt' te', PI X tg iter wi → (∀ (s : Shared) (H : Hp) (C : Addr) (cl : List (Str × Addr)) (fp : List Addr), PTs (X.blk s H scope (compEnvC scope cl C X.env) fp) ifs tt') →
      (∀ (s : Shared) (H : Hp) (C : Addr) (cl : List (Str × Addr)) (fp : List Addr), PE (X.blk s H scope (compEnvC scope cl C X.env) fp) elt te') → PE X (.ListComp elt [⟨tg, iter, ifs, 0⟩] scope pos) (tLc wi g' tt' te' (own.map (·.2)))) :
    DE X (.ListComp elt [⟨tg, iter, ifs, 0⟩] scope pos) (dLc ti g tt te (own.map (·.2))) := by
  obtain ⟨wi, p, h⟩ := hi.ex
  obtain ⟨tt', p2, h2⟩ := ht
  exact ⟨_, hp _ _ _ p p2 fun s H C cl fp => (he s H C cl fp).lift, lc_snd h hg h2⟩
theorem lcYes : ∃ tt', (∀ (s : Shared) (H : Hp) (C : Addr) (cl : List (Str × Addr)) (fp : List Addr), PTs (X.blk s H scope (compEnvC scope cl C X.env) fp) [] tt') ∧
      ∀ (G : Gm) (M : Addr → Prop) (σ : St) (H : Hp) (σd : DSt) (μ : Mem) (Q : Bool → Mem → Prop) (R : Bool → Hp → Prop), G.K = X.K → SR G M σ H σd μ → dYes σd μ Q → (∀ b H' μ', SR G M σ H' σd μ' → Q b μ' → R b H') → tt' σ H R :=
  ⟨tYes, fun _ _ _ _ _ => pts_nil, fun G M σ H σd μ Q R hK S q k => k _ _ _ S q⟩
theorem lcIf {c : Expr} {t : DTT} (h : ∀ (s : Shared) (H : Hp) (C : Addr) (cl : List (Str × Addr)) (fp : List Addr), DT (X.blk s H scope (compEnvC scope cl C X.env) fp) c t) : ∃ tt', (∀ (s : Shared) (H : Hp) (C : Addr) (cl : List (Str × Addr)) (fp : List Addr), PTs (X.blk s H scope (compEnvC scope cl C X.env) fp) [c] tt') ∧
      ∀ (G : Gm) (M : Addr → Prop) (σ : St) (H : Hp) (σd : DSt) (μ : Mem) (Q : Bool → Mem → Prop) (R : Bool → Hp → Prop), G.K = X.K → SR G M σ H σd μ → t σd μ Q → (∀ b H' μ', SR G M σ H' σd μ' → Q b μ' → R b H') → tt' σ H R :=
  ⟨liftT X.K t, fun s H C cl fp => pts_one (h s H C cl fp).lift, fun G M σ H σd μ Q R hK S q k => ⟨G, M, σd, μ, Q, hK, S, q, k⟩⟩
end
end DL

set_option maxRecDepth 100000
namespace DL
open PySem PySem.Spec PyProof.Rows L2
/-! ### the end: a law over D -/
/-- the script as the law gets it -/
def scr (ns : List Int) : D := .frz (ns.map D.int)
theorem law_core {P : Program} {w : World} {K : PySem.W.Frag} {mg mb : Str → Option Value} {k : Nat} {fa a : Addr} {fd : FuncData} {x : Str} {F : DSp} {s₁ : Shared} {vs : List Value} {ns : List Int}
    (KX : K.In s₁.heap) (gs : s₁.heap.Ns mainGlobals mg) (bs : s₁.heap.Ns builtinsNs mb) (hbb : ∀ x : Str, x ≠ "__name__" → mb x = bootBuiltins x) (lim : s₁.heap.NoLimit) (hg : s₁.gens = #[])
    (ha : s₁.heap.get? a = some { cls := .type "list", data := .seq vs.toArray }) (hr : Room k callerA)
    (Fn : ∀ base : Heap, K.In base → base.Ns mainGlobals mg → FnG P w K mg base k fa fd [x] (spD K F)) (hbind : ∀ (s : Shared) (u : Value), BindsTo s fd ⟨[u], []⟩ [(x, u)])
    (hF : ∀ Q : D → Mem → Prop, (∀ d μ, d = .bl true → Q d μ) → F [scr ns] [] Q) (H : Hp) (Hb : ∀ b u, H b = some u → b = a ∧ K.lookup a = none ∧ u = .frz { cls := .type "list", data := .seq vs.toArray } (.lst (ns.map V.int)))
    (ok0 : HOk P w H s₁.heap) (okS : OkF K (fun _ => False) H a (ns.map V.int)) :
    codeAny (model P w) callerA (.call (.ref fa) ⟨[.ref a], []⟩) (fun r s' => r = .ok (.ret (.bool true)) ∧ OldK s₁.heap s'.heap ∧ s'.os = s₁.os ∧ AllBare s'.gens) s₁ := by
  have nsK : ∀ {b : Addr} {m : Str → Option Value}, s₁.heap.Ns b m → (hidT s₁.heap H).Ns b m := fun {b m} h => by
    obtain ⟨o, es, ep, e, d, r⟩ := h
    refine ⟨o, es, ep, hidT_get e ?_, d, r⟩
    cases q : H b with
    | none => rfl
    | some u =>
      obtain ⟨z, _, _⟩ := Hb b u q
      subst z
      rw [ha] at e; cases e
      have d' : Data.seq vs.toArray _ = Data.dict es ep := d
      cases d'
  have kin : K.In (hidT s₁.heap H) := fun b o e => hidT_get (KX b o e) (by
    cases q : H b with
    | none => rfl
    | some u =>
      obtain ⟨z, z2, _⟩ := Hb b u q
      subst z
      rw [z2] at e; cases e)
  have md : Mod K mg (hidT s₁.heap H) := by
    obtain ⟨mc, h1, h2⟩ := lim
    exact ⟨kin, nsK gs, ⟨mb, nsK bs, hbb⟩, mc, nsK h1, h2⟩
  have e0 : Env0 P w K mg (hidT s₁.heap H) callerA [] s₁ H :=
    ⟨rfl, md, fun b o e => of_hidT e, Nat.le_of_eq (hidT_size _ _), trivial, fun b hb => absurd (show b ∈ ([] : List Addr) from hb) (by simp), ok0, .of_eq hg⟩
  have S0 : SR ⟨K, [], fun _ => False, H, []⟩ (fun _ => False) [] H [] [] :=
    ⟨rfl, fun i d e => by simp at e, fun i j p l l' e => by simp at e, rfl, fun i a l e => by simp at e, fun _ _ _ e => e, fun _ m => m, fun _ z => (nomatch z), fun _ m => m.elim, List.nodup_nil, fun _ z => (nomatch z), fun _ m => m.elim⟩
  have rs : Rps K [] (fun _ => False) H [scr ns] [.ref a] := ⟨_, _, rfl, ⟨a, ns.map V.int, rfl, okS, Rps.of_ints ns⟩, rfl⟩
  have sp : spD K F [.ref a] H (fun v H' => v = .bl true ∧ Aft K [] (fun _ => False) H H' []) E0 := by
    refine ⟨[], fun _ => False, [scr ns], [], fun d _ => d = .bl true, S0, rs, hF _ (fun d μ e => e), fun v H' d μ' A r q => ?_⟩
    subst q
    have : μ' = [] := List.length_eq_zero_iff.mp A.blen
    subst this
    exact ⟨r, A⟩
  refine codeAny_mono ((Fn _ kin (nsK gs)).does callerA [] s₁ H ⟨[.ref a], []⟩ [.ref a] [.ref a] _ E0 rfl hr e0 (hbind s₁ (.ref a)) (.cons rfl .nil) sp) ?_
  intro res s' h
  match res, h with
  | .ok (.ret u), ⟨v, H', os, bare, un, hok', r', q⟩ =>
    obtain ⟨q, A⟩ := q
    subst q
    obtain rfl : u = Value.bool true := r'
    refine ⟨rfl, OldK.of_keep fun b o e => ?_, os, bare⟩
    cases qb : H b with
    | none => exact un.keep b o e qb (by intro z; exact absurd (show b ∈ ([] : List Addr) from z) (by simp)) (by simp)
    | some ub =>
      obtain ⟨z, _, z2⟩ := Hb b ub qb
      subst z z2
      have := A.keep b _ (by simp) qb
      obtain ⟨e2, _⟩ := hok' b _ this
      rw [ha] at e; cases e
      exact e2
  | .ok .next, h => exact (show False from h).elim
  | .ok .brk, h => exact (show False from h).elim
  | .ok .cont, h => exact (show False from h).elim
  | .error e, h => exact (show False from h).elim
theorem law_callG {P : Program} {w : World} {K : PySem.W.Frag} {mg mb : Str → Option Value} {k : Nat} {fa a : Addr} {fd : FuncData} {x : Str} {F : DSp} {s₁ : Shared} {vs : List Value} {ns : List Int}
    (KX : K.In s₁.heap) (gs : s₁.heap.Ns mainGlobals mg) (bs : s₁.heap.Ns builtinsNs mb) (hbb : ∀ x : Str, x ≠ "__name__" → mb x = bootBuiltins x) (lim : s₁.heap.NoLimit) (hg : s₁.gens = #[])
    (ha : s₁.heap.get? a = some { cls := .type "list", data := .seq vs.toArray }) (hi : IntsAre vs ns) (hl : ns.length ≤ sizeLine) (hr : Room k callerA)
    (Fn : ∀ base : Heap, K.In base → base.Ns mainGlobals mg → FnG P w K mg base k fa fd [x] (spD K F)) (hbind : ∀ (s : Shared) (u : Value), BindsTo s fd ⟨[u], []⟩ [(x, u)])
    (hF : ∀ Q : D → Mem → Prop, (∀ d μ, d = .bl true → Q d μ) → F [scr ns] [] Q) :
    codeAny (model P w) callerA (.call (.ref fa) ⟨[.ref a], []⟩) (fun r s' => r = .ok (.ret (.bool true)) ∧ OldK s₁.heap s'.heap ∧ s'.os = s₁.os ∧ AllBare s'.gens) s₁ := by
  have rv := vals_of_ints hi
  cases hka : K.lookup a with
  | some o =>
    have e := KX a o hka
    rw [ha] at e
    cases e
    exact law_core KX gs bs hbb lim hg ha hr Fn hbind hF (fun _ => none) (fun b u z => nomatch z) (fun b u z => nomatch z) (.inr (.inr ⟨_, vs.toArray, _, hka, rfl, rfl, rfl, by rw [List.size_toArray, hi.length]; exact hl, by simpa using rv⟩))
  | none =>
    refine law_core KX gs bs hbb lim hg ha hr Fn hbind hF (fun b => if b = a then some (.frz { cls := .type "list", data := .seq vs.toArray } (.lst (ns.map V.int))) else none) (fun b u z => ?_) (fun b u z => ?_) (.inl ⟨fun z => z, _, if_pos rfl⟩)
    · by_cases hb : b = a
      · have z := (if_pos hb).symm.trans z
        cases z; exact ⟨hb, hka, rfl⟩
      · have z := (if_neg hb).symm.trans z
        cases z
    · by_cases hb : b = a
      · have z := (if_pos hb).symm.trans z
        cases z; subst hb
        exact ⟨ha, by rw [List.length_map]; exact hl, vs, _, rv, ha⟩
      · have z := (if_neg hb).symm.trans z
        cases z
theorem walk_D {l : PySem.W.OpenLaw} {n k : Nat} {q : Program} {loose : List Str} {XP : (Str → Option Value) → Heap → Prop} {YP : World → Heap → Prop} {d : DefRec} {K : Params → PySem.W.Frag} {F : DSp} {x : Str}
    (hn : l.most = some n) (hn2 : n ≤ sizeLine) (hdf : d.params.defaults = []) (hr : Room k callerA)
    (hY : ∀ (w : World) (h : Heap), YP w h → (K w.params).In h)
    (Fn : ∀ (w : World) (mg : Str → Option Value) (fa : Addr) (h : Heap), (K w.params).In h → h.Ns mainGlobals mg → mg d.name = some (.ref fa) →
      ∃ fd : FuncData, (∀ (s : Shared) (u : Value), BindsTo s fd ⟨[u], []⟩ [(x, u)]) ∧
        ∀ base : Heap, (K w.params).In base → base.Ns mainGlobals mg → FnG l.prog w (K w.params) mg base k fa fd [x] (spD (K w.params) F))
    (hF : ∀ (ns : List Int), ns.length ≤ n → ∀ Q : D → Mem → Prop, (∀ d μ, d = .bl true → Q d μ) → F [scr ns] [] Q) :
    PySem.W.WalkO q loose XP YP l.row.toRowW d [] (fun f vs => PySem.call f vs) := by
  apply Att.attach_call hn hdf
  intro w s₀ s₁ mg mb fa o pm cd doc a vs ns G Y ho hd hcd hmg hobj hints hlen hg
  have KX := hY w _ Y
  obtain ⟨fd, hb, hFn⟩ := Fn w mg fa _ KX G.T.g hmg
  exact law_callG KX G.T.g G.T.b G.T.builtins G.T.nolimit hg hobj hints (Nat.le_trans hlen hn2) hr hFn hb (hF ns hlen)
end DL

set_option maxRecDepth 100000
namespace DL
open PySem PySem.Spec L2
section
variable {X : Cx} {elt tg iter : Expr} {ifs : List Expr} {scope : Scope} {own : List (Str × Nat)} {pos spos py : Pos} {ti : DTI} {g' : TG} {g : DTG} {tt : DTT} {te : DTE} {y : Str} {i : Nat}
theorem ds_setLc (hi : DI X tg iter ti) (hg : CG X.K (own.map (·.2)) g' g)
    (ht : ∃ tt', (∀ (s : Shared) (H : Hp) (C : Addr) (cl : List (Str × Addr)) (fp : List Addr), PTs (X.blk s H scope (compEnvC scope cl C X.env) fp) ifs tt') ∧
      ∀ (G : Gm) (M : Addr → Prop) (σ : St) (H : Hp) (σd : DSt) (μ : Mem) (Q : Bool → Mem → Prop) (R : Bool → Hp → Prop), G.K = X.K → SR G M σ H σd μ → tt σd μ Q → (∀ b H' μ', SR G M σ H' σd μ' → Q b μ' → R b H') → tt' σ H R)
    (he : ∀ (s : Shared) (H : Hp) (C : Addr) (cl : List (Str × Addr)) (fp : List Addr), DE (X.blk s H scope (compEnvC scope cl C X.env) fp) elt te)
    (hp : ∀ wi tt' te', PI X tg iter wi → (∀ (s : Shared) (H : Hp) (C : Addr) (cl : List (Str × Addr)) (fp : List Addr), PTs (X.blk s H scope (compEnvC scope cl C X.env) fp) ifs tt') →
      (∀ (s : Shared) (H : Hp) (C : Addr) (cl : List (Str × Addr)) (fp : List Addr), PE (X.blk s H scope (compEnvC scope cl C X.env) fp) elt te') → PS X (.Assign [.Name y py] (.ListComp elt [⟨tg, iter, ifs, 0⟩] scope pos) spos) (tAsg (tLc wi g' tt' te' (own.map (·.2))) (gName i))) :
    DS X (.Assign [.Name y py] (.ListComp elt [⟨tg, iter, ifs, 0⟩] scope pos) spos) (dAsg (dLc ti g tt te (own.map (·.2))) (dgName i)) := by
  obtain ⟨wi, p, h⟩ := hi.ex
  obtain ⟨tt', p2, h2⟩ := ht
  refine ⟨_, hp _ _ (liftE X.K te) p p2 fun s H C cl fp => (he s H C cl fp).lift, fun G M σ H σd μ De E hK S q L => ?_⟩
  exact lc_snd h hg h2 G M σ H σd μ _ _ hK S q fun v H' d μ' S' r' q' => L.nx _ _ _ _ _ (S'.set i r') q'
end
/-! ### the defs of a text -/
/-- the def st stands at its name -/
def Dfn (K : PySem.W.Frag) (mg : Str → Option Value) (x : Str) (st : Stmt) (ps : List Str) : Prop :=
  ∃ (f : Addr) (fd : FuncData), mg x = some (.ref f) ∧ Fun K x x st f fd ∧ ∀ us : List Value, us.length = ps.length → bindArgs fd ⟨us, []⟩ = pure (ps.zip us)
/-- it keeps a promise -/
def Has (P : Program) (w : World) (K : PySem.W.Frag) (mg : Str → Option Value) (base : Heap) (k : Nat) (x : Str) (ps : List Str) (F : DSp) : Prop :=
  ∃ (f : Addr) (fd : FuncData), mg x = some (.ref f) ∧ PySem.W.keepIn K (.ref f) = true ∧ (∃ oc od osl, K.lookup f = some ⟨oc, od, .func fd, osl⟩) ∧ (∀ us : List Value, us.length = ps.length → bindArgs fd ⟨us, []⟩ = pure (ps.zip us)) ∧ FnG P w K mg base k f fd ps (spD K F)
section
variable {P : Program} {w : World} {K : PySem.W.Frag} {mg : Str → Option Value} {base : Heap}
theorem okH {x : Str} {st : Stmt} {N ps : List Str} {k : Nat} {F : DSp} {t : DTS} (D0 : Dfn K mg x st ps) (S : FnScope N ps (defScope st)) (cnt : ∀ ds μ Gd, F ds μ Gd → ds.length = ps.length)
    (bd : ∀ (f : Addr) (cdv : Value) (A : Around) (out : List Env) (s : Shared) (H : Hp) (E : XK), (bX P w K mg base N x st f cdv A out s H E).A.guards = some [] → Room k (bX P w K mg base N x st f cdv A out s H E).A →
      DSs (bX P w K mg base N x st f cdv A out s H E) (defBody st) t) (ht : ∀ ds μ Gd, F ds μ Gd → t { nx := fun _ μ' => Gd .non μ', rt := Gd } (startD N.length ds) μ) : Has P w K mg base (k + 1) x ps F := by
  obtain ⟨f, fd, g1, Fu, b1⟩ := D0
  obtain ⟨oc, od, kV, doc, pm, an, cdv, ct, osl, e1, l1, c1⟩ := Fu.ex
  exact ⟨f, fd, g1, Fu.kp, ⟨oc, od, osl, l1⟩, b1, okD Fu S cnt fun cdv A out s H E hg hr => ⟨t, bd f cdv A out s H E hg hr, ht⟩⟩
theorem Has.up {j k : Nat} {x : Str} {ps : List Str} {F : DSp} (h : Has P w K mg base j x ps F) (hk : j ≤ k) : Has P w K mg base k x ps F := by
  obtain ⟨f, fd, a, b, l, c, d⟩ := h
  exact ⟨f, fd, a, b, l, c, d.up hk⟩
end
theorem de_callH {X : Cx} {pos : Pos} {e : Expr} {k : Nat} {ps : List Str} {F : DSp} {x : Str} {p : Pos} {es : List Expr} {tr : DTA} (Hs : Has X.prog X.w X.K X.mg X.base k x ps F) (hg : X.A.guards = some []) (hr : Room k X.A) (gl : Gl X x)
    (ha : DA X (e :: es) tr) (hdb : (x == ("__debug__" : Str)) = false := by decide) (he : starEach (e :: es) X.env = (false, eval e X.env) :: starEach es X.env := by rfl) (hpl : (backTo pos (starEach es X.env)).any (·.1) = false := by rfl) :
    DE X (.Call (.Name x p) (e :: es) [] pos) (dCall F tr) := by
  obtain ⟨f, fd, hm, hk, _, hb, Fn⟩ := Hs
  exact de_call Fn hg hr gl hm hk (.all hb) ha hdb he hpl
theorem walk_H {l : PySem.W.OpenLaw} {n k : Nat} {q : Program} {loose : List Str} {XP : (Str → Option Value) → Heap → Prop} {YP : World → Heap → Prop} {d : PySem.DefRec} {K : Params → PySem.W.Frag} {F : DSp} {x : Str}
    (hn : l.most = some n) (hn2 : n ≤ sizeLine) (hdf : d.params.defaults = []) (hr : Room k PySem.callerA)
    (hY : ∀ (w : World) (h : Heap), YP w h → (K w.params).In h)
    (Fn : ∀ (w : World) (mg : Str → Option Value) (h : Heap), (K w.params).In h → h.Ns mainGlobals mg → ∀ base : Heap, (K w.params).In base → base.Ns mainGlobals mg → Has l.prog w (K w.params) mg base k d.name [x] F)
    (Df : ∀ (w : World) (mg : Str → Option Value) (h : Heap), (K w.params).In h → h.Ns mainGlobals mg → ∃ st, Dfn (K w.params) mg d.name st [x])
    (hF : ∀ (ns : List Int), ns.length ≤ n → ∀ Q : D → Mem → Prop, (∀ d μ, d = .bl true → Q d μ) → F [scr ns] [] Q) :
    PySem.W.WalkO q loose XP YP l.row.toRowW d [] (fun f vs => PySem.call f vs) := by
  refine walk_D (x := x) hn hn2 hdf hr hY (fun w mg fa h KX G hm => ?_) hF
  obtain ⟨st, f, fd, g1, Fu, b1⟩ := Df w mg h KX G
  rw [hm] at g1
  cases g1
  refine ⟨fd, fun s u => .of_eq (b1 [u] rfl), fun base kb gb => ?_⟩
  obtain ⟨f2, fd2, g2, k2, ⟨oc2, od2, osl2, l2⟩, b2, Fn2⟩ := Fn w mg h KX G base kb gb
  rw [hm] at g2
  cases g2
  obtain ⟨oc, od, kV, doc, pm, an, cdv, ct, osl, e1, l1, _⟩ := Fu.ex
  -- the same object: one function
  have same : fd = fd2 := by
    rw [l1] at l2
    injection l2 with l2
    injection l2 with _ _ l2 _
    injection l2
  rw [same]
  exact Fn2
theorem walk_T {l : PySem.W.OpenLaw} {n k : Nat} {q : Program} {loose : List Str} {XP : (Str → Option Value) → Heap → Prop} {YP : World → Heap → Prop} {d : PySem.DefRec} {K : Params → PySem.W.Frag} {F : DSp} {x : Str} {TX : PySem.W.Frag → (Str → Option Value) → Prop}
    (hn : l.most = some n) (hn2 : n ≤ sizeLine) (hdf : d.params.defaults = []) (hr : Room k PySem.callerA)
    (hY : ∀ (w : World) (h : Heap), YP w h → (K w.params).In h)
    (Fn : ∀ (w : World) (K : PySem.W.Frag) (mg : Str → Option Value) (base : Heap), TX K mg → Has l.prog w K mg base k d.name [x] F)
    (Df : ∀ (K : PySem.W.Frag) (mg : Str → Option Value), TX K mg → ∃ st, Dfn K mg d.name st [x])
    (mk : ∀ (w : World) (mg : Str → Option Value) (h : Heap), (K w.params).In h → h.Ns mainGlobals mg → TX (K w.params) mg)
    (hF : ∀ (ns : List Int), ns.length ≤ n → ∀ Q : D → Mem → Prop, (∀ d μ, d = .bl true → Q d μ) → F [scr ns] [] Q) :
    PySem.W.WalkO q loose XP YP l.row.toRowW d [] (fun f vs => PySem.call f vs) :=
  walk_H hn hn2 hdf hr hY (fun w mg h KX G base _ _ => Fn w _ mg base (mk w mg h KX G)) (fun w mg h KX G => Df _ mg (mk w mg h KX G)) hF
end DL

set_option maxRecDepth 100000
namespace DL
open PySem PySem.Spec L2
/-! ### the deck: the one object of a law that changes -/
def iabs (n : Int) : Int := if n < 0 then -n else n
/-- a list of the script's absolute cells, and 0 -/
def F_L_deck : DSp := fun ds μ Gd => ∃ ns : List Int, ds = [scr ns] ∧ ns.length ≤ 63 ∧ μ = [] ∧ Gd (.lst [.lst ((ns.map iabs).map D.int), .int 0]) []
/-- x = _law_deck(script), ahead of the rest of the law -/
def dDeck (i s : Nat) (u : DTS) : DTS := fun De σd μ => ∃ ns : List Int, σd[s]? = some (some (scr ns)) ∧ ns.length ≤ 63 ∧ μ = [] ∧ i ≠ s ∧
  u { nx := fun _ _ => False, rt := fun d _ => ∃ b, d = .bl b ∧ De.rt d [] } (((σd.map fun _ => none).set s (some (scr ns))).set i (some (.box 0))) [[.box 1, .int 0], (ns.map iabs).map D.int]
theorem dss_deck {X : Cx} {i s k : Nat} {x y : Str} {px py p pos pos' : Pos} {rest : List Stmt} {u : DTS} (Hs : Has X.prog X.w X.K X.mg X.base k "_law_deck" ["_law_script"] F_L_deck) (hg : X.A.guards = some []) (hr : Room k X.A)
    (hu : DSs X rest u) (hp : ∀ sp : TE, PE X (.Call (.Name "_law_deck" p) [.Name y py] [] pos) sp → PS X (.Assign [.Name x px] (.Call (.Name "_law_deck" p) [.Name y py] [] pos) pos') (tAsg sp (gName i)))
    (hc : ∀ (f : Addr) (fd : FuncData), X.mg "_law_deck" = some (.ref f) → PySem.W.keepIn X.K (.ref f) = true → Binds X.K fd ["_law_script"] [] → FnG X.prog X.w X.K X.mg X.base k f fd ["_law_script"] (spD X.K F_L_deck) →
      PE X (.Call (.Name "_law_deck" p) [.Name y py] [] pos) (fun σ H Q => tCons (tVar s) tNil σ H fun vs H1 => spD X.K F_L_deck vs H1 Q E0)) :
    DSs X (.Assign [.Name x px] (.Call (.Name "_law_deck" p) [.Name y py] [] pos) pos' :: rest) (dDeck i s u) := by
  obtain ⟨f, fd, hm, hk, _, hb, Fn⟩ := Hs
  obtain ⟨ts, pr, snd⟩ := hu.ex
  refine ⟨_, pss_cons (hp _ (hc f fd hm hk (.all hb) Fn)) pr, fun G M σ H σd μ De E hK S q L => ?_⟩
  obtain ⟨ns, e1, hl, rfl, his, q⟩ := q
  obtain ⟨v, ev, rv⟩ := S.slot s _ e1
  have rv : Rp G.K G.bx M H (scr ns) v := rv
  have b0 : G.bx = [] := List.length_eq_zero_iff.mp (by rw [← S.blen]; rfl)
  refine ⟨v, ev, ?_⟩
  obtain ⟨sa, sxs, rfl, oS, rS⟩ := rv
  let M1 : Addr → Prop := fun a => (∃ o, H a = some o) ∧ ¬ (a = sa ∧ ∃ o u, H sa = some (.frz o u))
  have oS1 : OkF G.K M1 H sa sxs := by
    rcases oS with ⟨m, o, e⟩ | w
    · exact .inl ⟨fun z => z.2 ⟨rfl, o, _, e⟩, o, e⟩
    · exact .inr w
  have eI := rS.ints
  subst eI
  have oS1' : OkF X.K M1 H sa (ns.map V.int) := by rw [← hK]; exact oS1
  refine ⟨[], M1, [scr ns], [], fun d μ' => d = .lst [.lst ((ns.map iabs).map D.int), .int 0], ?_, ?_, ⟨ns, rfl, hl, rfl, rfl⟩, fun v' H' d μ' A r e => ?_⟩
  · exact ⟨rfl, fun i d e => by simp at e, fun i j p l l' e => by simp at e, rfl, fun i a l e => by simp at e, fun _ _ _ e => e, fun _ m => m, fun _ z => (nomatch z), fun _ m => m.1, List.nodup_nil, fun _ z => (nomatch z), fun _ m => m.1⟩
  · exact ⟨_, _, rfl, ⟨sa, ns.map V.int, rfl, oS1', Rps.of_ints ns⟩, rfl⟩
  subst e
  obtain ⟨pa, xs, rfl, ⟨np, hpa⟩, r⟩ := r
  obtain ⟨v1, xr, rfl, r1, r2⟩ := r
  obtain ⟨v2, xr, rfl, r2, r3⟩ := r2
  cases (show xr = [] from r3)
  have r2 : v2 = .int 0 := r2
  subst r2
  obtain ⟨pb, ys, rfl, ⟨nq, hpb⟩, rI⟩ := r1
  have eJ := rI.ints
  subst eJ
  have old : ∀ a o, H a = some o → H' a = some o := fun a o e => A.keep a o (by simp) e
  -- both lists are new
  have fresh : ∀ {a : Addr} {zs : List V}, ¬ M1 a → H' a = some (.lst zs) → H a = none := fun {a zs} nm e => by
    cases q : H a with
    | none => rfl
    | some o =>
      obtain ⟨es, ob, u, e2⟩ := Classical.byContradiction fun z : ¬ (a = sa ∧ ∃ o u, H sa = some (.frz o u)) => nm ⟨⟨o, q⟩, z⟩
      subst es
      have := old _ _ e2
      rw [e] at this; cases this
  have fa := fresh np hpa
  have fb := fresh nq hpb
  have nab : pa ≠ pb := fun z => by
    subst z
    rw [hpa] at hpb
    have e := HO.lst.inj (Option.some.inj hpb)
    cases ns with
    | nil => cases e
    | cons n r => cases e
  let Md : Addr → Prop := fun a => a = pa ∨ a = pb
  let G' : Gm := ⟨G.K, [pa, pb], Md, H', []⟩
  have li : ∀ j d, (((σd.map fun _ => (none : Option D)).set s (some (scr ns))).set i (some (.box 0)))[j]? = some (some d) → (j = i ∧ d = .box 0) ∨ (j = s ∧ j ≠ i ∧ d = scr ns) := fun j d e => by
    by_cases hj : j = i
    · subst hj
      have hl := (List.getElem?_eq_some_iff.mp e).1
      rw [List.length_set] at hl
      rw [List.getElem?_set_self hl] at e
      cases e; exact .inl ⟨rfl, rfl⟩
    · rw [List.getElem?_set_ne (Ne.symm hj)] at e
      by_cases hs : j = s
      · subst hs
        have hl := (List.getElem?_eq_some_iff.mp e).1
        rw [List.length_set] at hl
        rw [List.getElem?_set_self hl] at e
        cases e; exact .inr ⟨rfl, hj, rfl⟩
      · rw [List.getElem?_set_ne (Ne.symm hs), List.getElem?_map] at e
        cases q : σd[j]? with
        | none => rw [q] at e; cases e
        | some z => rw [q] at e; cases e
  have S' : SR G' Md (σ.set i (some (.ref pa))) H' (((σd.map fun _ => none).set s (some (scr ns))).set i (some (.box 0))) [[.box 1, .int 0], (ns.map iabs).map D.int] := by
    refine ⟨by simp [S.len], fun j d e => ?_, fun j j' p l l' e1 => ?_, rfl, fun j a l e1 e2 => ?_, fun _ _ _ e => e, fun _ m => m, fun _ z => (nomatch z), fun a m => ?_, List.nodup_cons.mpr ⟨fun z => nab (List.mem_singleton.mp z), List.nodup_cons.mpr ⟨fun z => (nomatch z), List.nodup_nil⟩⟩, fun a m => ?_, fun a m => ?_⟩
    · rcases li j d e with ⟨rfl, rfl⟩ | ⟨rfl, hj, rfl⟩
      · have hl : j < σ.length := by
          have := (List.getElem?_eq_some_iff.mp e).1
          rw [S.len]; simpa using this
        exact ⟨.ref pa, by rw [List.getElem?_set_self hl], pa, rfl, rfl⟩
      · refine ⟨.ref sa, by rw [List.getElem?_set_ne (Ne.symm hj)]; exact ev, sa, ns.map V.int, rfl, ?_, Rps.of_ints ns⟩
        rcases oS1 with ⟨_, o, e2⟩ | w
        · refine .inl ⟨fun z => ?_, o, old _ _ e2⟩
          rcases z with z | z
          · rw [z, fa] at e2; cases e2
          · rw [z, fb] at e2; cases e2
        · exact .inr w
    · rcases li j _ e1 with ⟨_, z⟩ | ⟨_, _, z⟩ <;> cases z
    · match j, e1, e2 with
      | 0, e1, e2 =>
        cases e1; cases e2
        exact ⟨_, hpa, .ref pb, [.int 0], rfl, ⟨pb, rfl, rfl⟩, .int 0, [], rfl, rfl, rfl⟩
      | 1, e1, e2 =>
        cases e1; cases e2
        exact ⟨_, hpb, Rps.of_ints _⟩
      | j + 2, e1, e2 => exact nomatch (show (none : Option Addr) = some a from e1)
    · rcases m with rfl | rfl
      · exact ⟨_, hpa⟩
      · exact ⟨_, hpb⟩
    · rcases List.mem_cons.mp (show a ∈ [pa, pb] from m) with z | z
      · exact .inl z
      · exact .inr (List.mem_singleton.mp z)
    · rcases m with rfl | rfl
      · exact ⟨_, hpa⟩
      · exact ⟨_, hpb⟩
  refine snd G' Md _ H' _ _ _ _ hK S' q ⟨fun _ _ _ _ _ _ z => z.elim, fun M2 σ2 H2 σd2 μ2 v2 d2 S2 r2 q2 => ?_, fun _ _ _ _ _ _ z => z.elim, fun _ _ _ _ _ _ z => z.elim⟩
  obtain ⟨b, rfl, q2⟩ := q2
  have k2 : ∀ a o, H a = some o → H2 a = some o := fun a o e => S2.keep a o (fun z => by
    rcases List.mem_cons.mp (show a ∈ [pa, pb] from z) with z | z
    · rw [z, fa] at e; cases e
    · rw [List.mem_singleton.mp z, fb] at e; cases e) (old a o e)
  have SF : SR G G.M0 [] H2 [] [] := by
    refine ⟨rfl, fun i d e => by simp at e, fun i j p l l' e => by simp at e, by rw [b0]; rfl, fun i a l e => by rw [b0] at e; simp at e, fun a o h1 h2 => k2 a o (S.keep a o h1 h2), fun _ m => m, fun qf hq => ?_, fun a m => ?_, S.nd, S.bm, S.m0t⟩
    · exact Rp.stay (fun a o m e => ⟨k2 a o e, fun z => m (S.m0 a z)⟩) _ _ (S.fr qf hq)
    · obtain ⟨o, e⟩ := S.mt a (S.m0 a m)
      exact ⟨o, k2 a o e⟩
  exact L.rt G.M0 [] H2 [] [] v2 (.bl b) SF r2 q2
end DL

set_option maxRecDepth 100000
namespace DL
open PySem PySem.Spec L2
/-! ### one step of a reading at a time -/
section
variable {σ : DSt} {μ : Mem} {Q : D → Mem → Prop} {De : DEnds} {ta tb tc : DTE} {u u' : DTS} {rd rd' : DR2} {tr : DTA} {QA : List D → Mem → Prop} {QT : Bool → Mem → Prop} {tt tt' : DTT}
theorem e_seq (h : u { De with nx := u' De } σ μ) : dSeq u u' De σ μ := h
theorem e_next (h : De.nx σ μ) : dNext De σ μ := h
theorem e_break (h : De.bk σ μ) : dBreak De σ μ := h
theorem e_cont (h : De.ct σ μ) : dCont De σ μ := h
theorem e_asg {g : DTG} (h : ta σ μ fun x μ1 => g x σ μ1 De.nx) : dAsg ta g De σ μ := h
theorem e_ret (h : ta σ μ De.rt) : dRet ta De σ μ := h
theorem e_retN (h : De.rt .non μ) : dRetN De σ μ := h
theorem e_drop (h : ta σ μ fun _ μ1 => De.nx σ μ1) : dDrop ta De σ μ := h
theorem e_ifS {c : DTT} (h : c σ μ fun b μ1 => if b = true then u De σ μ1 else u' De σ μ1) : dIfS c u u' De σ μ := h
theorem e_par {i j : Nat} (h : tr σ μ fun ds μ1 => ∃ v w, ds = [v, w] ∧ De.nx ((σ.set i (some v)).set j (some w)) μ1) : dPar i j tr De σ μ := h
theorem e_par2 {v w : D} {R : D → D → Prop} (h : R v w) : ∃ v' w', [v, w] = [v', w'] ∧ R v' w' := ⟨v, w, rfl, h⟩
theorem e_par3 {i j l : Nat} (h : tr σ μ fun ds μ1 => ∃ u v w, ds = [u, v, w] ∧ De.nx (((σ.set i (some u)).set j (some v)).set l (some w)) μ1) : dPar3 i j l tr De σ μ := h
theorem e_par33 {v w z : D} {R : D → D → D → Prop} (h : R v w z) : ∃ v' w' z', [v, w, z] = [v', w', z'] ∧ R v' w' z' := ⟨v, w, z, rfl, h⟩
theorem e_gname {i : Nat} {d : D} {R : DSt → Mem → Prop} (h : R (σ.set i (some d)) μ) : dgName i d σ μ R := h
theorem e_gseqT {n : Nat} {l : List D} {t : DTGs} {R : DSt → Mem → Prop} (hl : l.length = n) (h : t l σ μ R) : dgSeq n t (.tup l) σ μ R := ⟨l, rfl, hl, h⟩
theorem e_gseqL {n : Nat} {l : List D} {t : DTGs} {R : DSt → Mem → Prop} (hl : l.length = n) (h : t l σ μ R) : dgSeq n t (.lst l) σ μ R := ⟨l, rfl, hl, h⟩
theorem e_gcons {d : D} {r : List D} {t : DTG} {v : DTGs} {R : DSt → Mem → Prop} (h : t d σ μ fun σ' μ' => v r σ' μ' R) : dgCons t v (d :: r) σ μ R := ⟨d, r, rfl, h⟩
theorem e_gnil {R : DSt → Mem → Prop} (h : R σ μ) : dgNil [] σ μ R := ⟨rfl, h⟩
theorem e_var {i : Nat} {d : D} (h1 : σ[i]? = some (some d)) (h2 : d.fz = true) (h : Q d μ) : dVar i σ μ Q := ⟨d, h1, h2, h⟩
theorem e_c {d : D} (h : Q d μ) : dC d σ μ Q := h
theorem e_op (h : ta σ μ fun x μ1 => tb σ μ1 fun y μ2 => rd x y μ2 Q) : dOp rd ta tb σ μ Q := h
theorem e_un {r : D → Mem → (D → Mem → Prop) → Prop} (h : ta σ μ fun x μ1 => r x μ1 Q) : dUn r ta σ μ Q := h
theorem e_neg {i : Int} (h : Q (.int (-i)) μ) : dNeg (.int i) μ Q := ⟨i, rfl, h⟩
theorem e_nil (h : QA [] μ) : dNil σ μ QA := h
theorem e_cons (h : ta σ μ fun x μ1 => tr σ μ1 fun xs μ2 => QA (x :: xs) μ2) : dCons ta tr σ μ QA := h
theorem e_tup (h : tr σ μ fun ds μ1 => ds.length ≤ sizeLine ∧ Q (.tup ds) μ1) : dTup tr σ μ Q := h
theorem e_lst (h : tr σ μ fun ds μ1 => ds.length ≤ sizeLine ∧ Q (.lst ds) μ1) : dLst tr σ μ Q := h
theorem e_and {p q : Prop} (hp : p) (hq : q) : p ∧ q := ⟨hp, hq⟩
theorem e_cb {rc : DRC} (h : tr σ μ fun ds μ1 => rc ds μ1 Q) : dCB rc tr σ μ Q := h
theorem e_call {F : DSp} (h : tr σ μ fun ds μ1 => F ds μ1 Q) : dCall F tr σ μ Q := h
theorem e_ifE {t : DTT} (h : t σ μ fun c μ1 => if c = true then ta σ μ1 Q else tb σ μ1 Q) : dIf t ta tb σ μ Q := h
theorem e_test (h : ta σ μ fun x μ' => ∃ k, x = .bl k ∧ QT k μ') : dTest ta σ μ QT := h
theorem e_bl {k : Bool} {R : Bool → Prop} (h : R k) : ∃ k', D.bl k = D.bl k' ∧ R k' := ⟨k, rfl, h⟩
theorem e_notT (h : tt σ μ fun c μ1 => QT (!c) μ1) : dNotT tt σ μ QT := h
theorem e_andT (h : tt σ μ fun c μ1 => if c = true then tt' σ μ1 QT else QT false μ1) : dAndT tt tt' σ μ QT := h
theorem e_orT (h : tt σ μ fun c μ1 => if c = true then QT true μ1 else tt' σ μ1 QT) : dOrT tt tt' σ μ QT := h
theorem e_andV (h : ta σ μ fun x μ1 => ∃ c, x = .bl c ∧ if c = true then tb σ μ1 Q else Q (.bl false) μ1) : dAndV ta tb σ μ Q := h
theorem e_orV (h : ta σ μ fun x μ1 => ∃ c, x = .bl c ∧ if c = true then Q (.bl true) μ1 else tb σ μ1 Q) : dOrV ta tb σ μ Q := h
theorem e_notV (h : ta σ μ fun x μ1 => ∃ c, x = .bl c ∧ Q (.bl (!c)) μ1) : dNotV ta σ μ Q := h
theorem e_chain (h : ta σ μ fun x μ1 => tb σ μ1 fun y μ2 => rd x y μ2 fun z μ3 => ∃ k, z = .bl k ∧ if k = true then tc σ μ3 fun w μ4 => rd' y w μ4 Q else Q (.bl false) μ3) : dChain rd rd' ta tb tc σ μ Q := h
/-! branches -/
theorem e_if {p : Prop} [Decidable p] {A B : Prop} (h1 : p → A) (h2 : ¬ p → B) : if decide p = true then A else B := by
  by_cases h : p
  · rw [if_pos (decide_eq_true h)]; exact h1 h
  · rw [if_neg (by rw [decide_eq_false h]; decide)]; exact h2 h
theorem e_ifT {b : Bool} {A B : Prop} (hb : b = true) (h : A) : if b = true then A else B := by rw [if_pos hb]; exact h
theorem e_ifF {b : Bool} {A B : Prop} (hb : b = false) (h : B) : if b = true then A else B := by rw [if_neg (by rw [hb]; decide)]; exact h
theorem e_ifB {b : Bool} {A B : Prop} (h1 : b = true → A) (h2 : b = false → B) : if b = true then A else B := by
  cases b with
  | true => rw [if_pos rfl]; exact h1 rfl
  | false => rw [if_neg (by decide)]; exact h2 rfl
/-! operators -/
theorem e_addI {i j : Int} (h : Q (.int (i + j)) μ) : dAdd (.int i) (.int j) μ Q := .inl ⟨i, j, rfl, rfl, h⟩
theorem e_addL {x y : D} {l m : List D} (h1 : rawOf μ x = some l) (h2 : rawOf μ y = some m) (hl : l.length + m.length ≤ sizeLine) (h : Q (.lst (l ++ m)) μ) : dAdd x y μ Q := .inr (.inl ⟨l, m, h1, h2, hl, h⟩)
theorem e_addT {l m : List D} (hl : l.length + m.length ≤ sizeLine) (h : Q (.tup (l ++ m)) μ) : dAdd (.tup l) (.tup m) μ Q := .inr (.inr ⟨l, m, rfl, rfl, hl, h⟩)
theorem e_sub {i j : Int} (h : Q (.int (i - j)) μ) : dSub (.int i) (.int j) μ Q := ⟨i, j, rfl, rfl, h⟩
theorem e_mulI {i j : Int} (c : CMulX i j) (h : Q (.int (i * j)) μ) : dMul (.int i) (.int j) μ Q := .inl ⟨i, j, rfl, rfl, c, h⟩
theorem e_mulL {x : D} {l : List D} {k : Int} (h1 : rawOf μ x = some l) (c : -(2 ^ 63) ≤ k ∧ k < 2 ^ 63 ∧ l.length * k.toNat ≤ sizeLine) (h : Q (.lst (List.replicate k.toNat l).flatten) μ) : dMul x (.int k) μ Q := .inr ⟨l, k, h1, rfl, c.1, c.2.1, c.2.2, h⟩
theorem e_fdiv {i j : Int} (c : CDivW i j) (h : Q (.int (i / j)) μ) : dFdiv (.int i) (.int j) μ Q := ⟨i, j, rfl, rfl, .of c, h⟩
theorem e_fdivX {i j : Int} (c : CDivX i j) (h : Q (.int (i / j)) μ) : dFdiv (.int i) (.int j) μ Q := ⟨i, j, rfl, rfl, c, h⟩
theorem e_mod {i j : Int} (c : 0 < j) (h : Q (.int (i % j)) μ) : dMod (.int i) (.int j) μ Q := ⟨i, j, rfl, rfl, c, h⟩
theorem e_pow {i j : Int} (c : CPow i j) (h : Q (.int (i ^ j.toNat)) μ) : dPow (.int i) (.int j) μ Q := ⟨i, j, rfl, rfl, c, h⟩
theorem e_shl {i j : Int} (c : CShl i j) (h : Q (.int (i * 2 ^ j.toNat)) μ) : dShl (.int i) (.int j) μ Q := ⟨i, j, rfl, rfl, c, h⟩
theorem e_shr {i j : Int} (c : 0 ≤ j) (h : Q (.int (i / 2 ^ j.toNat)) μ) : dShr (.int i) (.int j) μ Q := ⟨i, j, rfl, rfl, c, h⟩
theorem e_lt {i j : Int} (h : Q (.bl (decide (i < j))) μ) : dLt (.int i) (.int j) μ Q := ⟨i, j, rfl, rfl, h⟩
theorem e_le {i j : Int} (h : Q (.bl (decide (i ≤ j))) μ) : dLe (.int i) (.int j) μ Q := ⟨i, j, rfl, rfl, h⟩
theorem e_gt {i j : Int} (h : Q (.bl (decide (j < i))) μ) : dGt (.int i) (.int j) μ Q := ⟨i, j, rfl, rfl, h⟩
theorem e_ge {i j : Int} (h : Q (.bl (decide (j ≤ i))) μ) : dGe (.int i) (.int j) μ Q := ⟨i, j, rfl, rfl, h⟩
theorem eqv_int (i j : Int) : (D.int i).eqv (.int j) = decide (i = j) := by
  show (i == j) = _
  rw [Bool.beq_eq_decide_eq]
theorem ok_int (i : Int) : (D.int i).ok := ⟨rfl, by
  unfold SeqAt.shaped
  simp [D.py, PyData.canLay0, PyData.depth]⟩
theorem e_eqI {i j : Int} (h : Q (.bl (decide (i = j))) μ) : dEq (.int i) (.int j) μ Q := .inl ⟨ok_int i, ok_int j, by rw [eqv_int]; exact h⟩
theorem e_neI {i j : Int} (h : Q (.bl (!decide (i = j))) μ) : dNe (.int i) (.int j) μ Q := .inl ⟨ok_int i, ok_int j, by rw [eqv_int]; exact h⟩
theorem e_eq {x y : D} (h1 : x.ok) (h2 : y.ok) (h : Q (.bl (x.eqv y)) μ) : dEq x y μ Q := .inl ⟨h1, h2, h⟩
theorem e_ne {x y : D} (h1 : x.ok) (h2 : y.ok) (h : Q (.bl (!x.eqv y)) μ) : dNe x y μ Q := .inl ⟨h1, h2, h⟩
theorem e_eqS {s t : Str} (h : Q (.bl (decide (s = t))) μ) : dEq (.str s) (.str t) μ Q := .inr ⟨s, t, rfl, rfl, h⟩
theorem e_neS {s t : Str} (h : Q (.bl (!decide (s = t))) μ) : dNe (.str s) (.str t) μ Q := .inr ⟨s, t, rfl, rfl, h⟩
theorem e_isN {x : D} (h : Q (.bl x.isN) μ) : dIsN x .non μ Q := ⟨rfl, h⟩
theorem e_notN {x : D} (h : Q (.bl (!x.isN)) μ) : dNotN x .non μ Q := ⟨rfl, h⟩
theorem e_ix {x d : D} {l : List D} {i : Int} (h1 : seqOf μ x = some l) (h2 : atI l i = some d) (h : Q d μ) : dIx x (.int i) μ Q := ⟨l, i, d, h1, rfl, h2, h⟩
theorem e_slT {te : DTE} {tl th : DTO} (h : te σ μ fun x μ1 => tl σ μ1 fun l μ2 => th σ μ2 fun w μ3 => (∃ ds, lstOf μ3 x = some ds ∧ Q (.lst (cutD ds l w)) μ3) ∨ (∃ ds, x = .tup ds ∧ Q (.tup (cutD ds l w)) μ3)) : dSl te tl th σ μ Q := h
theorem e_part {QO : Option Int → Mem → Prop} (h : ta σ μ fun x μ1 => ∃ i, x = .int i ∧ QO (some i) μ1) : dPart ta σ μ QO := h
theorem e_part1 {R : Int → Prop} {i : Int} (h : R i) : ∃ j, D.int i = D.int j ∧ R j := ⟨i, rfl, h⟩
theorem e_nopart {QO : Option Int → Mem → Prop} (h : QO none μ) : dNoPart σ μ QO := h
theorem e_cutL {x : D} {ds : List D} {R : List D → Prop} {B : Prop} (h1 : lstOf μ x = some ds) (h : R ds) : (∃ ds, lstOf μ x = some ds ∧ R ds) ∨ B := .inl ⟨ds, h1, h⟩
theorem e_cutT {ds : List D} {R : List D → Prop} {B : Prop} (h : R ds) : B ∨ (∃ es, D.tup ds = .tup es ∧ R es) := .inr ⟨ds, rfl, h⟩
theorem e_revL (h : ta σ μ fun x μ1 => ∃ ds, lstOf μ1 x = some ds ∧ Q (.lst ds.reverse) μ1) : dRevL ta σ μ Q := h
theorem e_abs {i : Int} (h : Q (.int (if i < 0 then -i else i)) μ) : dAbs [.int i] μ Q := ⟨i, rfl, h⟩
theorem e_max2 {i j : Int} (h : Q (.int (if j > i then j else i)) μ) : dMax2 [.int i, .int j] μ Q := ⟨i, j, rfl, h⟩
theorem e_min2 {i j : Int} (h : Q (.int (if j < i then j else i)) μ) : dMin2 [.int i, .int j] μ Q := ⟨i, j, rfl, h⟩
theorem e_int1 {i : Int} (h : Q (.int i) μ) : dInt1 [.int i] μ Q := .inl ⟨i, rfl, h⟩
theorem e_intB {k : Bool} (h : Q (.int (if k then 1 else 0)) μ) : dInt1 [.bl k] μ Q := .inr ⟨k, rfl, h⟩
theorem e_len {d : D} {l : List D} (h1 : seqOf μ d = some l) (h : Q (.int l.length) μ) : dLen [d] μ Q := ⟨d, l, rfl, h1, h⟩
theorem e_isi {d : D} {n m : String} {r : Bool} (h1 : d.tyn = some n) (h2 : kitB n m = some r) (h : Q (.bl r) μ) : dIsi [d, .ty m] μ Q := ⟨d, n, m, r, rfl, h1, h2, h⟩
theorem e_sum {d : D} {ns : List Int} (h1 : lstOf μ d = some (ns.map D.int)) (h : Q (.int ns.sum) μ) : dSum [d] μ Q := ⟨d, ns, rfl, h1, h⟩
theorem e_repr {d : D} (h1 : d.shw) (h : Q (.str d.py.shown) μ) : dRepr [d] μ Q := ⟨d, rfl, h1, h⟩
theorem e_listOf {d : D} {l : List D} (h1 : seqOf μ d = some l) (h : Q (.lst l) μ) : dListOf [d] μ Q := ⟨d, l, rfl, h1, h⟩
theorem e_tupleOf {d : D} {l : List D} (h1 : lstOf μ d = some l) (h : Q (.tup l) μ) : dTupleOf [d] μ Q := ⟨d, l, rfl, h1, h⟩
theorem e_gbox {to ti : DTE} {d : D} {R : DSt → Mem → Prop} (h : to σ μ fun o μ1 => ti σ μ1 fun y μ2 => ∃ b l i j, o = .box b ∧ μ2[b]? = some l ∧ y = .int i ∧ ixN l.length i = some j ∧ R σ (μ2.set b (l.set j d))) : dgBox to ti d σ μ R := h
theorem e_for {ti : DTI} {g : DTG} (h : ti σ μ fun items μ1 => dLoop g u De items σ μ1) : dFor ti g u De σ μ := h
theorem e_itL {l : List D} {R : List D → Prop} (h : R l) : ∃ l', (D.lst l = .lst l' ∨ D.lst l = .frz l') ∧ R l' := ⟨l, .inl rfl, h⟩
theorem e_itLs {Q : List D → Mem → Prop} (h : ta σ μ fun d μ1 => ∃ l, (d = .lst l ∨ d = .frz l) ∧ Q l μ1) : dItL ta σ μ Q := h
theorem e_itTs {Q : List D → Mem → Prop} (h : ta σ μ fun d μ1 => ∃ l, d = .tup l ∧ Q l μ1) : dItT ta σ μ Q := h
theorem e_itT {l : List D} {R : List D → Prop} (h : R l) : ∃ l', D.tup l = .tup l' ∧ R l' := ⟨l, rfl, h⟩
theorem e_rng1 {Q : List D → Mem → Prop} (h : tr σ μ fun ds μ1 => ∃ j : Int, ds = [.int j] ∧ (-(2 ^ 62) ≤ j ∧ j < 2 ^ 62) ∧ Q (rngD 0 j.toNat) μ1) : dRng1 tr σ μ Q := h
theorem e_rng1b {R : Int → Prop} {j : Int} (hj : -(2 ^ 62) ≤ j ∧ j < 2 ^ 62) (h : R j) : ∃ j' : Int, [D.int j] = [.int j'] ∧ (-(2 ^ 62) ≤ j' ∧ j' < 2 ^ 62) ∧ R j' := ⟨j, rfl, hj, h⟩
theorem e_rng2b {R : Int → Int → Prop} {i j : Int} (hj : -(2 ^ 62) ≤ i ∧ i < 2 ^ 62 ∧ -(2 ^ 62) ≤ j ∧ j < 2 ^ 62) (h : R i j) : ∃ i' j' : Int, [D.int i, D.int j] = [.int i', .int j'] ∧ (-(2 ^ 62) ≤ i' ∧ i' < 2 ^ 62 ∧ -(2 ^ 62) ≤ j' ∧ j' < 2 ^ 62) ∧ R i' j' := ⟨i, j, rfl, hj, h⟩
theorem e_rng2 {Q : List D → Mem → Prop} (h : tr σ μ fun ds μ1 => ∃ i j : Int, ds = [.int i, .int j] ∧ (-(2 ^ 62) ≤ i ∧ i < 2 ^ 62 ∧ -(2 ^ 62) ≤ j ∧ j < 2 ^ 62) ∧ Q (rngD i (j - i).toNat) μ1) : dRng2 tr σ μ Q := h
theorem e_lc {ti : DTI} {g : DTG} {te : DTE} {vs : List Nat} (h : ti σ μ fun items μ1 => dLcLoop g tt te (hideD σ vs) items [] μ1 fun acc μ2 => Q (.lst acc) μ2) : dLc ti g tt te vs σ μ Q := h
theorem e_own {i : Nat} (h : tr σ μ fun ds μ1 => ds.length ≤ sizeLine ∧ De.nx (σ.set i (some (.own ds))) μ1) : dOwn i tr De σ μ := h
theorem e_app {i : Nat} {l : List D} (h1 : σ[i]? = some (some (.own l))) (h : ta σ μ fun d μ1 => l.length < sizeLine ∧ De.nx (σ.set i (some (.own (l ++ [d])))) μ1) : dApp i ta De σ μ := ⟨l, h1, h⟩
theorem e_frz {i : Nat} {l : List D} (h1 : σ[i]? = some (some (.own l))) (h : u De (σ.set i (some (.lst l))) μ) : dFreeze i u De σ μ := ⟨l, h1, h⟩
theorem e_yes (h : QT true μ) : dYes σ μ QT := h
/-! loops by what holds between two turns -/
theorem loop_inv {g : DTG} (Iv : Nat → DSt → Mem → Prop) : ∀ (items : List D) (k : Nat) (σ : DSt) (μ : Mem), Iv k σ μ →
    (∀ i x σ μ (K : DSt → Mem → Prop), items[i]? = some x → Iv (k + i) σ μ → (∀ σ' μ', Iv (k + i + 1) σ' μ' → K σ' μ') → g x σ μ fun σ2 μ2 => u { nx := K, rt := De.rt, bk := De.nx, ct := K } σ2 μ2) →
    (∀ σ μ, Iv (k + items.length) σ μ → De.nx σ μ) → dLoop g u De items σ μ
  | [], k, σ, μ, h0, hs, hd => hd σ μ h0
  | x :: r, k, σ, μ, h0, hs, hd => by
    refine hs 0 x σ μ (dLoop g u De r) rfl h0 fun σ' μ' h => ?_
    refine loop_inv Iv r (k + 1) σ' μ' h (fun i x σ μ K e q hk => ?_) (fun σ μ h => hd σ μ (by rw [List.length_cons, show k + (r.length + 1) = k + 1 + r.length by omega]; exact h))
    exact hs (i + 1) x σ μ K (by simpa using e) (by rw [show k + (i + 1) = k + 1 + i by omega]; exact q) fun σ' μ' h => hk σ' μ' (by rw [show k + 1 + i + 1 = k + (i + 1) + 1 by omega]; exact h)
/-- the turn does not ask which it is -/
theorem loop_all {g : DTG} (Iv : DSt → Mem → Prop) {items : List D} {σ : DSt} {μ : Mem} (h0 : Iv σ μ)
    (hs : ∀ x σ μ (K : DSt → Mem → Prop), x ∈ items → Iv σ μ → (∀ σ' μ', Iv σ' μ' → K σ' μ') → g x σ μ fun σ2 μ2 => u { nx := K, rt := De.rt, bk := De.nx, ct := K } σ2 μ2)
    (hd : ∀ σ μ, Iv σ μ → De.nx σ μ) : dLoop g u De items σ μ :=
  loop_inv (fun _ => Iv) items 0 σ μ h0 (fun i x σ μ K e q hk => hs x σ μ K (List.mem_of_getElem? e) q hk) hd
theorem lc_inv {g : DTG} {te : DTE} {σw : DSt} {Q : List D → Mem → Prop} (Iv : Nat → List D → Mem → Prop) : ∀ (items : List D) (k : Nat) (acc : List D) (μ : Mem), Iv k acc μ →
    (∀ i x acc μ (K : List D → Mem → Prop), items[i]? = some x → Iv (k + i) acc μ → (∀ acc' μ', Iv (k + i + 1) acc' μ' → K acc' μ') → g x σw μ fun σ2 μ2 => tt σ2 μ2 fun b μ3 => if b = true then te σ2 μ3 fun y μ4 => acc.length < sizeLine ∧ K (acc ++ [y]) μ4 else K acc μ3) →
    (∀ acc μ, Iv (k + items.length) acc μ → Q acc μ) → dLcLoop g tt te σw items acc μ Q
  | [], k, acc, μ, h0, hs, hd => hd acc μ h0
  | x :: r, k, acc, μ, h0, hs, hd => by
    refine hs 0 x acc μ (fun a m => dLcLoop g tt te σw r a m Q) rfl h0 fun a m h => ?_
    refine lc_inv Iv r (k + 1) a m h (fun i x acc μ K e q hk => ?_) (fun acc μ h => hd acc μ (by rw [List.length_cons, show k + (r.length + 1) = k + 1 + r.length by omega]; exact h))
    exact hs (i + 1) x acc μ K (by simpa using e) (by rw [show k + (i + 1) = k + 1 + i by omega]; exact q) fun a m h => hk a m (by rw [show k + 1 + i + 1 = k + (i + 1) + 1 by omega]; exact h)
/-- [f(x) for x in items], by a function of the items -/
theorem lc_map {g : DTG} {te : DTE} {σw : DSt} {μ : Mem} {Q : List D → Mem → Prop} (f : D → D) {items : List D} (hz : items.length ≤ sizeLine)
    (hs : ∀ x (K : D → Mem → Prop), x ∈ items → K (f x) μ → g x σw μ fun σ2 μ2 => te σ2 μ2 K) (h : Q (items.map f) μ) : dLcLoop g dYes te σw items [] μ Q := by
  refine lc_inv (fun i acc μ' => μ' = μ ∧ acc = (items.take i).map f) items 0 [] μ ⟨rfl, rfl⟩ (fun i x acc μ' K e q hk => ?_) (fun acc μ' q => ?_)
  · obtain ⟨rfl, rfl⟩ := q
    have hi : i < items.length := (List.getElem?_eq_some_iff.mp e).1
    refine hs x (fun y μ4 => _ ∧ K (_ ++ [y]) μ4) (List.mem_of_getElem? e) ⟨by rw [Nat.zero_add, List.length_map, List.length_take]; omega, hk _ _ ⟨rfl, ?_⟩⟩
    rw [Nat.zero_add, List.take_add_one, e, List.map_append]
    rfl
  · obtain ⟨rfl, rfl⟩ := q
    rw [Nat.zero_add, List.take_length]
    exact h
end
end DL

set_option maxRecDepth 100000
namespace DL
open PySem PySem.Spec PyProof.Rows L2
/-! ### ranges of any size -/
theorem turn_long {P : Program} {w : World} {K : PySem.W.Frag} {tg : Expr} (it : Addr) (lo : Int) (n : Nat) : Turn P w K tg (Itr lo n) [it] it (fun i h => IsLongIter h it (lo + (i : Nat) * 1) ((n : Int) - (i : Nat)) 1) := by
  refine ⟨List.mem_singleton.mpr rfl, ?_, fun i h h' st k => k it (List.mem_singleton.mpr rfl) _ st, ?_, ?_, fun _ _ _ _ _ st h => wpAny_pyIter_longiter st h⟩
  · intro i h st b hb
    cases List.mem_singleton.mp hb
    refine ⟨_, st, fun v z => ?_⟩
    cases (show Data.fields _ = Data.cell v from z)
  · rintro X rfl rfl rfl hc i pins s σ H E I hf st hg
    have hit := hf it (List.mem_singleton.mpr rfl)
    refine (Walks.longrange (prog := X.prog) (w := X.w) (I.ok.hd hc) it lo 1 n).item i s _ _ hg st ?_
    rintro v h' tk ⟨t, rfl⟩ st' kk
    have J : Inv X pins σ H { s with heap := h', toks := tk } := I.turned (fun b o hb e => kk b o (fun z => hb (List.mem_singleton.mp z)) e) hit.1 hit.2.1 hit.2.2.2.1 hit.2.2.2.2.1 hit.2.2.2.2.2
    refine ⟨_, rfl, go_of (s := { s with heap := h', toks := tk }) (n := "longrange_iterator") st' rfl rfl (by decide) ?_⟩
    exact ⟨.int (lo + i), H, J, ⟨t, by rw [Int.mul_one]⟩, ⟨rfl, rfl⟩, st', fun b hb => (hf b hb).1⟩
  · rintro X rfl rfl rfl hc i pins s σ H E I hf st hg
    have hit := hf it (List.mem_singleton.mpr rfl)
    have hn : n ≤ i := hg
    refine wpAny_pyNext_long_end (I.ok.hd hc) st (by omega) fun h' eb => ⟨rfl, ?_⟩
    exact I.turned (t' := s.toks) (fun b o hb e => eb b o hb e) hit.1 hit.2.1 hit.2.2.2.1 hit.2.2.2.2.1 hit.2.2.2.2.2
theorem range_wide {X : Cx} {tg : Expr} {pins : List (Addr × Obj)} {σ : List (Option V)} {H : Hp} {s : Shared} {R : It → Hp → Prop} {E : Value → Shared → Prop} {lo hi : Int} {t u v : Tok} {tk : Nat} (I : Inv X pins σ H s)
    (q : R (Itr lo (hi - lo).toNat) H) : wpAny (model X.prog X.w) X.A (pyIter (.ref s.heap.objs.size)) (PIE X pins σ tg R) E { s with heap := s.heap.push { cls := .type "range", data := .fields #[.int lo t, .int hi u, .int 1 v] }, toks := tk } := by
  let h1 := s.heap.push { cls := .type "range", data := .fields #[.int lo t, .int hi u, .int 1 v] }
  have I1 : Inv X pins σ H { s with heap := h1, toks := tk } := I.kept fun b o e => Heap.get?_push_of_some _ e
  have sz : (((hi - lo).toNat : Nat) : Int) - ((0 : Nat) : Int) = Builtin.Range.rangeSize lo hi 1 := by rw [rangeSize_one]; split <;> omega
  have e1 : lo + ((0 : Nat) : Int) * 1 = lo := by omega
  have new : ∀ b ∈ [h1.objs.size], FpOk X pins H b := fun b hb => by
    cases List.mem_singleton.mp hb
    exact I1.fpOk (Nat.le_refl _) (I1.hok.fresh (Nat.le_refl _))
  cases sm : Builtin.Range.small lo hi 1 with
  | true =>
    refine wpAny_pyIter_range (IsRange.new ..) sm ?_
    refine ⟨h1.objs.size, [h1.objs.size], _, _, H, rfl, I1.kept (t' := tk) fun b o e => Heap.get?_push_of_some _ e, turn_range _ lo (hi - lo).toNat, ?_, new, q⟩
    show IsRangeIter _ _ (lo + ((0 : Nat) : Int) * 1) ((((hi - lo).toNat : Nat) : Int) - ((0 : Nat) : Int)) 1
    rw [e1, sz]
    exact Heap.get?_push_size _ rfl
  | false =>
    refine wpAny_pyIter_longrange (IsRange.new ..) sm ?_
    refine ⟨h1.objs.size, [h1.objs.size], _, _, H, rfl, I1.kept (t' := tk) fun b o e => Heap.get?_push_of_some _ e, turn_long _ lo (hi - lo).toNat, ?_, new, q⟩
    show IsLongIter _ _ (lo + ((0 : Nat) : Int) * 1) ((((hi - lo).toNat : Nat) : Int) - ((0 : Nat) : Int)) 1
    rw [e1, sz]
    exact Heap.get?_push_size _ rfl
def iRngW (ta : TA) : TI := fun σ H R => ta σ H fun vs H1 => ∃ i j : Int, vs = [.int i, .int j] ∧ R (Itr i (j - i).toNat) H1
theorem pi_rangeW {X : Cx} {tg a b : Expr} {ta : TA} {p pos : Pos} (hg : Gl X "range") (hm : X.mg "range" = none) (ha : PA X [a, b] ta) (hs : starEach [a, b] X.env = [(false, eval a X.env), (false, eval b X.env)] := by rfl) (hs2 : starEach [b] X.env = [(false, eval b X.env)] := by rfl) :
    PI X tg (.Call (.Name "range" p) [a, b] [] pos) (iRngW ta) := by
  constructor
  intro pins s σ H R I h
  refine Call_ (ld_blt I hg hm boot_range (PyProof.Rows.callWith_type1 (thn (ha.run pos pins s σ H _ I h) ?_) (by rw [hs, hs2]) (by rw [hs2]; rfl)))
  rintro us s1 ⟨vs, H1, I1, r, i, j, rfl, q⟩
  match us, r with
  | [_, _], .cons ⟨t, rfl⟩ (.cons ⟨t', rfl⟩ .nil) => exact call_range_2 (range_wide I1 q)
def dRngW (t : DTA) : DTI := fun σd μ Q => t σd μ fun ds μ1 => ∃ i j : Int, ds = [.int i, .int j] ∧ Q (rngD i (j - i).toNat) μ1
theorem di_rangeW {X : Cx} {tg a b : Expr} {ta : DTA} {p pos : Pos} (ha : DA X [a, b] ta) (hp : ∀ ta', PA X [a, b] ta' → PI X tg (.Call (.Name "range" p) [a, b] [] pos) (iRngW ta')) : DI X tg (.Call (.Name "range" p) [a, b] [] pos) (dRngW ta) := by
  obtain ⟨te, p, h⟩ := ha.ex
  refine ⟨_, hp _ p, fun G M σ H σd μ Q R hK S q k => ?_⟩
  refine h G M σ H σd μ _ _ hK S q fun vs H1 ds μ1 S1 r1 q1 => ?_
  obtain ⟨i, j, rfl, q1⟩ := q1
  obtain ⟨v, v', rfl, r, r'⟩ := rps2 r1
  exact ⟨i, j, by rw [show v = .int i from r, show v' = .int j from r'], k [] _ _ _ _ (S1.pinL fun q hq => nomatch hq) (rng_it i (j - i).toNat) q1⟩
theorem e_rngW {tr : DTA} {σ : DSt} {μ : Mem} {Q : List D → Mem → Prop} (h : tr σ μ fun ds μ1 => ∃ i j : Int, ds = [.int i, .int j] ∧ Q (rngD i (j - i).toNat) μ1) : dRngW tr σ μ Q := h
theorem e_rngWb {R : Int → Int → Prop} {i j : Int} (h : R i j) : ∃ i' j' : Int, [D.int i, D.int j] = [.int i', .int j'] ∧ R i' j' := ⟨i, j, rfl, h⟩
end DL

set_option maxRecDepth 100000
set_option exponentiation.threshold 5000
namespace DL
open PySem PySem.Spec L2
/-! ### what repr can show -/
mutual
/-- its ints are not too great -/
def D.gd : D → Prop
  | .non => True
  | .bl _ => True
  | .int i => i.natAbs < 2 ^ 1919
  | .str x => PyData.strOk x = true
  | .tup l => gds l
  | .lst l => gds l
  | _ => False
def gds : List D → Prop
  | [] => True
  | d :: l => d.gd ∧ gds l
end
mutual
/-- more signs than its text has -/
def D.wt : D → Nat
  | .non => 4
  | .bl _ => 5
  | .int _ => 1921
  | .str x => 10 * x.length + 2
  | .tup l => wts l + 3
  | .lst l => wts l + 3
  | _ => 0
def wts : List D → Nat
  | [] => 0
  | d :: l => d.wt + 2 + wts l
end
mutual
def D.dp : D → Nat
  | .tup l => dps l + 1
  | .lst l => dps l + 1
  | _ => 0
def dps : List D → Nat
  | [] => 0
  | d :: l => max d.dp (dps l)
end
theorem listText_len (ts : List Str) : (listText ts).length ≤ piled ts + 2 := by
  have h : ∀ ts : List Str, (listText ts).length = (textFrom 0 "[" ts).length + 1 := fun ts => by
    show (textFrom 0 "[" ts ++ "]").length = _
    rw [strLen_append]; rfl
  cases ts with
  | nil => decide +kernel
  | cons t r =>
    rw [h]
    have e : textFrom 0 "[" (t :: r) = textFrom 1 (("[" : Str) ++ (if (0 : Nat) > 0 then ", " else "" : String) ++ t) r := rfl
    rw [e, textFrom_length_pos r 1 _ (by decide), strLen_append, strLen_append, piled_cons]
    have : (("[" : String) : Str).length = 1 := by decide +kernel
    have : ((if (0 : Nat) > 0 then ", " else "" : String) : Str).length = 0 := by decide +kernel
    omega
theorem tupleText_len (ts : List Str) : (tupleText ts).length ≤ piled ts + 3 := by
  unfold tupleText
  rw [strLen_append, strLen_append]
  have e1 : (("(" : String) : Str).length = 1 := by decide +kernel
  have e3 : ((if ts.length == 1 then ",)" else ")" : String) : Str).length ≤ 2 := by split <;> decide +kernel
  cases ts with
  | nil =>
    have : (Str.join ", " []).length = 0 := by decide +kernel
    omega
  | cons t r =>
    have := join_length_add (t :: r) (by simp)
    omega
mutual
theorem shown_len : ∀ d : D, d.gd → d.py.shown.length ≤ d.wt
  | .non, _ => by simp only [D.py, PyData.shown, D.wt]; decide +kernel
  | .bl b, _ => by cases b <;> (simp only [D.py, PyData.shown, D.wt]; decide +kernel)
  | .int i, h => by
    simp only [D.py, PyData.shown, D.wt]
    have h : i.natAbs < 2 ^ 1919 := h
    exact PyProof.Rows.int_text_len_1921 (by
      by_cases z : i.natAbs = 0
      · rw [z]; decide
      · exact (Nat.log2_lt z).mpr (Nat.lt_of_lt_of_le h (Nat.pow_le_pow_right (by decide) (by decide))))
  | .str x, h => by
    simp only [D.py, PyData.shown, D.wt]
    have h : PyData.strOk x = true := h
    unfold PyData.strOk at h
    refine StrLaws.reprText_len x fun c hc => ?_
    have := (Array.all_eq_true'.mp h) c (Array.mem_toList_iff.mp hc)
    have := of_decide_eq_true this
    omega
  | .tup l, h => by
    simp only [D.py, PyData.shown, D.wt]
    have := tupleText_len (PyData.shownAll (pys l))
    have := shown_piled l h
    omega
  | .lst l, h => by
    simp only [D.py, PyData.shown, D.wt]
    have := listText_len (PyData.shownAll (pys l))
    have := shown_piled l h
    omega
  | .own _, h => h.elim
  | .frz _, h => h.elim
  | .box _, h => h.elim
  | .ty _, h => h.elim
theorem shown_piled : ∀ l : List D, gds l → piled (PyData.shownAll (pys l)) ≤ wts l
  | [], _ => by simp only [pys, PyData.shownAll, piled_nil, wts]; omega
  | d :: l, h => by
    simp only [pys, PyData.shownAll, piled_cons, wts]
    have h1 := shown_len d h.1
    have h2 := shown_piled l h.2
    omega
end
mutual
theorem gd_flat : ∀ d : D, d.gd → d.flat = true ∧ d.py.showable = true ∧ d.py.canLay0 = true
  | .non, _ => ⟨rfl, rfl, rfl⟩
  | .bl b, _ => ⟨rfl, rfl, rfl⟩
  | .int i, h => ⟨rfl, by
      simp only [D.py, PyData.showable]
      have h : i.natAbs < 2 ^ 1919 := h
      refine decide_eq_true ?_
      by_cases z : i.natAbs = 0
      · rw [z]; decide
      · exact (Nat.log2_lt z).mpr (Nat.lt_of_lt_of_le h (Nat.pow_le_pow_right (by decide) (by decide))), rfl⟩
  | .str x, h => ⟨rfl, rfl, h⟩
  | .tup l, h => by simp only [D.flat, D.py, PyData.showable, PyData.canLay0]; exact gds_flat l h
  | .lst l, h => by simp only [D.flat, D.py, PyData.showable, PyData.canLay0]; exact gds_flat l h
  | .own _, h => h.elim
  | .frz _, h => h.elim
  | .box _, h => h.elim
  | .ty _, h => h.elim
theorem gds_flat : ∀ l : List D, gds l → flats l = true ∧ PyData.showableAll (pys l) = true ∧ PyData.canLayAll0 (pys l) = true
  | [], _ => ⟨rfl, rfl, rfl⟩
  | d :: l, h => by
    obtain ⟨a, b, c⟩ := gd_flat d h.1
    obtain ⟨a', b', c'⟩ := gds_flat l h.2
    simp only [flats, pys, PyData.showableAll, PyData.canLayAll0, a, b, c, a', b', c', Bool.and_self, and_self]
end
mutual
theorem dp_py : ∀ d : D, d.gd → d.py.depth = d.dp
  | .non, _ => rfl
  | .bl b, _ => rfl
  | .int i, h => rfl
  | .str x, h => rfl
  | .tup l, h => by simp only [D.py, PyData.depth, D.dp]; rw [dps_py l h]
  | .lst l, h => by simp only [D.py, PyData.depth, D.dp]; rw [dps_py l h]
  | .own _, h => h.elim
  | .frz _, h => h.elim
  | .box _, h => h.elim
  | .ty _, h => h.elim
theorem dps_py : ∀ l : List D, gds l → PyData.depthAll (pys l) = dps l
  | [], _ => rfl
  | d :: l, h => by simp only [pys, PyData.depthAll, dps]; rw [dp_py d h.1, dps_py l h.2]
end
theorem shw_of {d : D} (g : d.gd) (w : d.wt ≤ 16777216) (p : d.dp ≤ 50) : d.shw := by
  obtain ⟨a, b, c⟩ := gd_flat d g
  exact ⟨a, b, py_hd d, by rw [dp_py d g]; exact p, by have := shown_len d g; rw [sizeLine_eq]; omega⟩
theorem ok_of {d : D} (g : d.gd) (p : d.dp ≤ 50) : d.ok := by
  obtain ⟨a, b, c⟩ := gd_flat d g
  refine ⟨a, ?_⟩
  unfold SeqAt.shaped
  rw [c, dp_py d g, decide_eq_true (by omega)]
  rfl
mutual
theorem eqv_self : ∀ d : D, d.gd → PyData.eqv d.py d.py = true
  | .non, _ => rfl
  | .bl b, _ => by cases b <;> rfl
  | .int i, h => by simp only [D.py, PyData.eqv, BEq.rfl]
  | .str x, h => by simp only [D.py, PyData.eqv, BEq.rfl]
  | .tup l, h => by simp only [D.py, PyData.eqv]; exact eqv_selfs l h
  | .lst l, h => by simp only [D.py, PyData.eqv]; exact eqv_selfs l h
  | .own _, h => h.elim
  | .frz _, h => h.elim
  | .box _, h => h.elim
  | .ty _, h => h.elim
theorem eqv_selfs : ∀ l : List D, gds l → PyData.eqvAll (pys l) (pys l) = true
  | [], _ => rfl
  | d :: l, h => by simp only [pys, PyData.eqvAll, eqv_self d h.1, eqv_selfs l h.2]; rfl
end
theorem gds_of {l : List D} (h : ∀ d ∈ l, d.gd) : gds l := by
  induction l with
  | nil => trivial
  | cons d l ih => exact ⟨h d (by simp), ih fun x hx => h x (by simp [hx])⟩
theorem wts_le {l : List D} {w : Nat} (h : ∀ d ∈ l, d.wt ≤ w) : wts l ≤ (w + 2) * l.length := by
  induction l with
  | nil => exact Nat.zero_le _
  | cons d l ih =>
    have h1 := h d (by simp)
    have h2 := ih fun x hx => h x (by simp [hx])
    simp only [wts, List.length_cons, Nat.mul_add, Nat.mul_one]
    omega
theorem dps_le {l : List D} {k : Nat} (h : ∀ d ∈ l, d.dp ≤ k) : dps l ≤ k := by
  induction l with
  | nil => exact Nat.zero_le _
  | cons d l ih =>
    have h1 := h d (by simp)
    have h2 := ih fun x hx => h x (by simp [hx])
    simp only [dps]
    omega
end DL

set_option maxRecDepth 100000
namespace DL
open PySem PySem.Spec L2 PyProof.Rows
/-! ### xs[-2::-1] of a list: all but the last one, backwards -/
theorem rev2_pick (items : Array Value) : slicePick items (some (-2)) none (some (-1)) = (items.toList.take (items.size - 1)).reverse.toArray := by
  unfold slicePick
  have hb : sliceBounds (some (-2)) none (some (-1)) items.size = (((items.size - 1 : Nat) : Int) - 1, -1, -1) := by
    show (max (-1 : Int) (min (-2 + (items.size : Int)) ((items.size : Int) - 1)), (-1 : Int), (-1 : Int)) = _
    rw [show max (-1 : Int) (min (-2 + (items.size : Int)) ((items.size : Int) - 1)) = ((items.size - 1 : Nat) : Int) - 1 by omega]
  rw [hb]
  show ((sliceRange (((items.size - 1 : Nat) : Int) - 1) (-1) (-1)).filterMap (items[·]?)).toArray = _
  rw [PySem.W.krv_sliceRange, PySem.W.krv_range, List.filterMap_reverse]
  have h := pick_run items 0 (items.size - 1)
  rw [show ((0 + ·) : Nat → Nat) = id from funext fun k => Nat.zero_add k, List.map_id, List.drop_zero] at h
  rw [h]
variable {X : Cx}
def tRev2 (K : PySem.W.Frag) (te : TE) : TE := fun σ H Q => te σ H fun x H1 => ∃ a xs, x = .ref a ∧ SqL K H1 a xs ∧ ∀ p, H1 p = none → Q (.ref p) (upd H1 p (.lst (xs.take (xs.length - 1)).reverse))
theorem pe_rev2 {e : Expr} {te : TE} {k k2 : Nat} {p1 p2 p3 p4 p5 pos : Pos} (he : PE X e te) : PE X (.Subscript e (.Slice (some (.UnaryOp .USub (.Constant (.int 2) k2 p4) p5)) none (some (.UnaryOp .USub (.Constant (.int 1) k p1) p2)) p3) pos) (tRev2 X.K te) := by
  refine ⟨fun pins s σ H Q I h => ?_⟩
  refine Subscript_ (thn (he.run pins s σ H _ I h) fun v s1 ⟨x, H1, I1, r1, q1⟩ => ?_)
  obtain ⟨a, xs, ex, hx, q⟩ := q1
  subst ex
  cases r1
  have hst : PO X (some (.UnaryOp .USub (.Constant (.int 1) k p1) p2)) (tPart (tUn (rU fun i => .int (-i)) (tC (.int 1)))) := po_some (pe_un un_neg pe_int)
  have hs2 : PO X (some (.UnaryOp .USub (.Constant (.int 2) k2 p4) p5)) (tPart (tUn (rU fun i => .int (-i)) (tC (.int 2)))) := po_some (pe_un un_neg pe_int)
  refine wpAny_Slice (thn (hs2.run pins s1 σ H1 (fun o H2 => o = some (-2) ∧ H2 = H1) I1 ⟨2, rfl, -2, rfl, rfl, rfl⟩) fun vl s2 ⟨l, H2, I2, pl, el, e2⟩ => ?_)
  subst el e2
  refine thn (po_none.run pins s2 σ H2 (fun o H3 => o = none ∧ H3 = H2) I2 ⟨rfl, rfl⟩) fun vu s3 ⟨u, H3, I3, pu, eu, e3⟩ => ?_
  subst eu e3
  refine thn (hst.run pins s3 σ H3 (fun o H4 => o = some (-1) ∧ H4 = H3) I3 ⟨1, rfl, -1, rfl, rfl, rfl⟩) fun vs s4 ⟨o, H4, I4, ps, eo, e4⟩ => ?_
  subst eo e4
  have I5 : Inv X pins σ H4 { s4 with heap := s4.heap.push { cls := .type "slice", data := .fields #[vl, vu, vs] } } := I4.kept (t' := s4.toks) fun b ob q => Heap.get?_push_of_some _ q
  obtain ⟨its, r, ht, hz⟩ := I5.list hx
  have hlen := r.length
  show wpAny (model X.prog X.w) X.A (subscriptTail e (.Slice (some (.UnaryOp .USub (.Constant (.int 2) k2 p4) p5)) none (some (.UnaryOp .USub (.Constant (.int 1) k p1) p2)) p3) (.ref a) (.ref s4.heap.objs.size)) (EP X pins σ Q) X.xe { s4 with heap := s4.heap.push { cls := .type "slice", data := .fields #[vl, vu, vs] } }
  refine tail_any (ops := [.ref a, .ref s4.heap.objs.size]) ht.isList.typeIs (PySem.slot_list_getitem.lookup) ?_ (by with_unfolding_all rfl)
  refine wpAny_getItem_list_slice ht.isList (Heap.IsSliceOf.new _ vl vu vs) pl pu ps (by decide) ?_ (by rw [List.size_toArray]; omega)
  rw [rev2_pick]
  refine ⟨.ref _, _, I5.laid (t' := s4.toks) (o := .lst (xs.take (xs.length - 1)).reverse) (fun b ob q => Heap.get?_push_of_some _ q) (Nat.le_refl _) ?_, rfl, q _ (I5.hok.fresh (Nat.le_refl _))⟩
  have hr := (r.take (xs.length - 1)).reverse
  refine ⟨by rw [List.length_reverse, List.length_take]; omega, _, 0, hr, ?_⟩
  rw [show (its.toArray).toList.take ((its.toArray).size - 1) = its.take (xs.length - 1) by rw [List.size_toArray, ← hlen]]
  exact Heap.get?_push_size _ rfl
def dRev2 (t : DTE) : DTE := fun σd μ Q => t σd μ fun x μ1 => ∃ ds, lstOf μ1 x = some ds ∧ Q (.lst (ds.take (ds.length - 1)).reverse) μ1
theorem de_rev2 {e : Expr} {t : DTE} {k k2 : Nat} {p1 p2 p3 p4 p5 pos : Pos} (he : DE X e t) : DE X (.Subscript e (.Slice (some (.UnaryOp .USub (.Constant (.int 2) k2 p4) p5)) none (some (.UnaryOp .USub (.Constant (.int 1) k p1) p2)) p3) pos) (dRev2 t) := by
  obtain ⟨te, p, he⟩ := he.ex
  refine ⟨_, pe_rev2 p, fun G M σ H σd μ Q R hK S hq k => ?_⟩
  refine he G M σ H σd μ _ _ hK S hq fun v H1 d μ1 S1 r1 q1 => ?_
  obtain ⟨ds, e, q⟩ := q1
  obtain ⟨a, xs, rfl, h, rs⟩ := sq_lst S1 r1 e
  rw [hK] at h
  exact ⟨a, xs, rfl, h, fun p hp => k _ _ _ _ (S1.new hp) (by rw [rs.len]; exact S1.newL hp (rs.take _).rev) q⟩
theorem e_rev2 {σ : DSt} {μ : Mem} {Q : D → Mem → Prop} {ta : DTE} (h : ta σ μ fun x μ1 => ∃ ds, lstOf μ1 x = some ds ∧ Q (.lst (ds.take (ds.length - 1)).reverse) μ1) : dRev2 ta σ μ Q := h
/-! ### x, y = ([], n) -/
def dParOwn (i j : Nat) (n : Int) : DTS := fun De σd μ => De.nx ((σd.set i (some (.own []))).set j (some (.int n))) μ
theorem ds_parOwn {i j : Nat} {x y : Str} {n : Int} {px py pt p1 p2 pos : Pos} {kt k2 pt2 kc} (hp : ∀ ta', PA X [.List [] p1, .Constant (.int n) kc p2] ta' → PS X (.Assign [.Tuple [.Name x px, .Name y py] kt pt] (.Tuple [.List [] p1, .Constant (.int n) kc p2] k2 pt2) pos) (tPar i j ta')) :
    DS X (.Assign [.Tuple [.Name x px, .Name y py] kt pt] (.Tuple [.List [] p1, .Constant (.int n) kc p2] k2 pt2) pos) (dParOwn i j n) := by
  refine ⟨_, hp _ (pa_cons (pe_lst pa_nil) (pa_cons pe_int pa_nil)), fun G M σ H σd μ De E hK S q L => ?_⟩
  have S1 := fun p hp => SR.ownSet (l := []) (xs := []) S i (p := p) hp rfl
  refine ⟨Nat.zero_le _, fun p hp => ⟨_, _, rfl, ?_⟩⟩
  exact L.nx _ _ _ _ _ ((S1 p hp).set j (d := .int n) (v := .int n) rfl) q
theorem e_parOwn {i j : Nat} {n : Int} {De : DEnds} {σ : DSt} {μ : Mem} (h : De.nx ((σ.set i (some (.own []))).set j (some (.int n))) μ) : dParOwn i j n De σ μ := h
end DL

set_option maxRecDepth 100000
namespace DL
open PySem PySem.Spec L2 PyProof.Rows
section
variable {X : Cx} {e : Expr} {t : DTE} {pos : Pos}
/-! ### bit_length, str of an integer, the length of a text, what is never reached -/
def dBits (t : DTE) : DTE := fun σd μ Q => t σd μ fun x μ1 => ∃ i, x = .int i ∧ Q (.int (Builtin.Int.intBits i : Nat)) μ1
theorem de_bits {apos : Pos} (he : DE X e t) (hbase : attributeBase e "bit_length" X.env (eval e X.env) = eval e X.env := by rfl) (hline : (apos.endLine == pos.line) = true := by rfl) : DE X (.Call (.Attribute e "bit_length" apos) [] [] pos) (dBits t) := by
  obtain ⟨te, p, he⟩ := he.ex
  refine ⟨_, pe_bits p hbase hline, fun G M σ H σd μ Q R hK S hq k => ?_⟩
  refine he G M σ H σd μ _ _ hK S hq fun v H1 d μ1 S1 r1 q1 => ?_
  obtain ⟨i, rfl, q⟩ := q1
  exact ⟨i, r1, k _ _ _ _ S1 (rpI _) q⟩
theorem e_bits {σ : DSt} {μ : Mem} {Q : D → Mem → Prop} (h : t σ μ fun x μ1 => ∃ i, x = .int i ∧ Q (.int (Builtin.Int.intBits i : Nat)) μ1) : dBits t σ μ Q := h
theorem e_bits1 {i : Int} {R : Int → Prop} (h : R i) : ∃ j, D.int i = .int j ∧ R j := ⟨i, rfl, h⟩
def dNever : DTS := fun _ _ _ => False
theorem ds_never {st : Stmt} : DS X st dNever := ⟨fun _ _ _ => False, ⟨fun _ _ _ _ _ _ h => h.elim⟩, fun G M σ H σd μ De E hK S q L => q.elim⟩
def dStr1 : DRC := fun ds μ Q => ∃ i, ds = [.int i] ∧ i.natAbs.log2 < 1920 ∧ Q (.str (toString i)) μ
theorem cd_str : CD X (.type "str") dStr1 := by
  refine ⟨_, call_str_int, fun G M σ H σd μ xs ds Q R hK S r q k => ?_⟩
  obtain ⟨i, rfl, hz, q⟩ := q
  obtain ⟨v, rfl, r1⟩ := rps1 r
  exact ⟨i, by rw [show v = .int i from r1], hz, k _ _ _ _ S (rpS _) q⟩
theorem e_str1 {i : Int} {μ : Mem} {Q : D → Mem → Prop} (hz : i.natAbs.log2 < 1920) (h : Q (.str (toString i)) μ) : dStr1 [.int i] μ Q := ⟨i, rfl, hz, h⟩
def dLenS : DRC := fun ds μ Q => ∃ z : Str, ds = [.str z] ∧ z.length ≤ sizeLine ∧ Q (.int z.length) μ
theorem cd_lenS : CD X (.builtin "len") dLenS := by
  refine ⟨_, call_len_str, fun G M σ H σd μ xs ds Q R hK S r q k => ?_⟩
  obtain ⟨z, rfl, hz, q⟩ := q
  obtain ⟨v, rfl, r1⟩ := rps1 r
  exact ⟨z, by rw [show v = .str z from r1], hz, k _ _ _ _ S (rpI _) q⟩
theorem e_lenS {z : Str} {μ : Mem} {Q : D → Mem → Prop} (hz : z.length ≤ sizeLine) (h : Q (.int z.length) μ) : dLenS [.str z] μ Q := ⟨z, rfl, hz, h⟩
end
end DL

set_option maxRecDepth 100000
namespace DL
open PySem PySem.Spec L2 PyProof.Rows
section
variable {X : Cx} {e : Expr} {t : DTE} {pos : Pos}
/-! ### xs.extend(list) of a list of one's own -/
def dExt (i : Nat) (t : DTE) : DTS := fun De σd μ => ∃ l : List D, σd[i]? = some (some (.own l)) ∧ t σd μ fun d μ1 => ∃ m : List D, d = .lst m ∧ l.length + m.length ≤ sizeLine ∧ De.nx (σd.set i (some (.own (l ++ m)))) μ1
theorem ds_extend {i : Nat} {o : Expr} {apos cpos : Pos} (ho : PE X o (tVar i)) (he : DE X e t) (hp : ∀ te, PE X e te → PS X (.Expr (.Call (.Attribute o "extend" apos) [e] [] cpos) pos) (tDrop (tBM X.K "list" rExtend (tVar i) (tCons te tNil)))) :
    DS X (.Expr (.Call (.Attribute o "extend" apos) [e] [] cpos) pos) (dExt i t) := by
  obtain ⟨te, p, h⟩ := he.ex
  refine ⟨_, hp _ p, fun G M σ H σd μ De E hK S q L => ?_⟩
  obtain ⟨l, e1, q⟩ := q
  obtain ⟨v, ev, pp, xs, rfl, mp, h0, hh, rs⟩ := S.slot i _ e1
  refine ⟨_, ev, .inl ⟨rfl, xs, SqL.of hh⟩, ?_⟩
  refine h G M σ H σd μ _ _ hK S q fun w H1 d μ1 S1 r1 q1 => ?_
  obtain ⟨m, rfl, hz, q1⟩ := q1
  obtain ⟨b, zs, rfl, ob, rz⟩ := r1
  obtain ⟨v', ev', p', xs', e2, mp', h0', hh', rs'⟩ := S1.slot i _ e1
  rw [ev] at ev'; cases ev'; cases e2
  exact ⟨pp, b, xs', zs, rfl, rfl, hh', ob.2, by rw [rs'.len, rz.len]; exact hz, L.nx _ _ _ _ _ (S1.ownUpd i e1 ev (rs'.app rz)) q1⟩
theorem e_ext {i : Nat} {l : List D} {σ : DSt} {μ : Mem} {De : DEnds} (h1 : σ[i]? = some (some (.own l))) (h : t σ μ fun d μ1 => ∃ m : List D, d = .lst m ∧ l.length + m.length ≤ sizeLine ∧ De.nx (σ.set i (some (.own (l ++ m)))) μ1) : dExt i t De σ μ := ⟨l, h1, h⟩
/-! ### zip of two lists -/
def zipD (l m : List D) : List D := List.zipWith (fun x y => D.tup [x, y]) l m
def dZip (ta : DTA) : DTI := fun σd μ Q => ta σd μ fun ds μ1 => ∃ l m, ds = [.lst l, .lst m] ∧ Q (zipD l m) μ1
theorem di_zip {a b : Expr} {ta : DTA} {p tpos : Pos} {elts : List Expr} {kk : Nat} (ha : DA X [a, b] ta) (hp : ∀ ta', PA X [a, b] ta' → PI X (.Tuple elts kk tpos) (.Call (.Name "zip" p) [a, b] [] pos) (RZ.iZipA X.K ta')) : DI X (.Tuple elts kk tpos) (.Call (.Name "zip" p) [a, b] [] pos) (dZip ta) := by
  obtain ⟨te, p, h⟩ := ha.ex
  refine ⟨_, hp _ p, fun G M σ H σd μ Q R hK S q k => ?_⟩
  refine h G M σ H σd μ _ _ hK S q fun vs H1 ds μ1 S1 r1 q1 => ?_
  obtain ⟨l, m, rfl, q1⟩ := q1
  obtain ⟨v, v', rfl, r, r'⟩ := rps2 r1
  obtain ⟨a1, xs, rfl, h1, h2⟩ := id r
  obtain ⟨b1, ys, rfl, g1, g2⟩ := id r'
  have again : ∀ (G' : Gm) M σ H σd μ, G'.K = G.K → G'.bx = G.bx → (∀ q ∈ [(V.ref a1, D.lst l), (V.ref b1, D.lst m)], q ∈ G'.Fr) → SR G' M σ H σd μ → (∃ xs, SqL X.K H a1 xs ∧ Rps G'.K G'.bx M H l xs) ∧ ∃ ys, SqL X.K H b1 ys ∧ Rps G'.K G'.bx M H m ys := fun G' M σ H σd μ eK eb hF S' => by
    obtain ⟨a', xs, ea, h1, h2⟩ := S'.fr _ (hF _ (List.mem_cons_self ..))
    obtain ⟨b', ys, eb, g1, g2⟩ := S'.fr _ (hF _ (List.mem_cons_of_mem _ (List.mem_singleton.mpr rfl)))
    cases ea
    cases eb
    exact ⟨⟨xs, h1.sq, h2⟩, ys, g1.sq, g2⟩
  refine ⟨a1, b1, xs, ys, rfl, .inl ⟨h1.sq, g1.sq, k [(.ref a1, .lst l), (.ref b1, .lst m)] _ _ (zipD l m) μ1 (S1.pinL fun q hq => ?_) ⟨?_, ?_, ?_⟩ q1⟩⟩
  · rcases List.mem_cons.mp hq with hq | hq
    · rw [hq]; exact r
    · rw [List.mem_singleton.mp hq]; exact r'
  · intro G' M σ H σd μ i eK eb hF S' hi
    obtain ⟨⟨xs, h1, h2⟩, ys, g1, g2⟩ := again G' M σ H σd μ eK eb hF S'
    unfold zipD at hi
    rw [List.length_zipWith] at hi
    obtain ⟨v, e3, _⟩ := h2.get (List.getElem?_eq_getElem (show i < l.length by omega))
    obtain ⟨w, e4, _⟩ := g2.get (List.getElem?_eq_getElem (show i < m.length by omega))
    exact ⟨xs, ys, v, w, h1, g1, e3, e4⟩
  · intro G' M σ H σd μ eK eb hF S'
    obtain ⟨⟨xs, h1, h2⟩, ys, g1, g2⟩ := again G' M σ H σd μ eK eb hF S'
    unfold zipD
    rw [List.length_zipWith]
    exact ⟨xs, ys, h1, g1, by rw [h2.len, g2.len]; omega⟩
  · intro G' M σ H σd μ i x H' d' eK eb hF S' hi y
    obtain ⟨T, x1, y1, rfl, hT, rfl, yx, yy⟩ := y
    obtain ⟨⟨xs, h1, h2⟩, ys, g1, g2⟩ := again G' M σ H σd μ eK eb hF S'
    unfold zipD at hi
    rw [List.getElem?_zipWith_eq_some] at hi
    obtain ⟨dx, dy, ex, ey, rfl⟩ := hi
    obtain ⟨v, e3, r3⟩ := h2.get ex
    obtain ⟨w, e4, r4⟩ := g2.get ey
    have := yx xs h1
    rw [e3] at this; cases this
    have := yy ys g1
    rw [e4] at this; cases this
    exact ⟨S'.new hT, S'.newT hT ⟨_, _, rfl, r3, _, _, rfl, r4, rfl⟩⟩
theorem e_zip {σ : DSt} {μ : Mem} {ta : DTA} {Q : List D → Mem → Prop} (h : ta σ μ fun ds μ1 => ∃ l m, ds = [.lst l, .lst m] ∧ Q (zipD l m) μ1) : dZip ta σ μ Q := h
theorem e_zip1 {l m : List D} {R : List D → List D → Prop} (h : R l m) : ∃ l' m', [D.lst l, D.lst m] = [.lst l', .lst m'] ∧ R l' m' := ⟨l, m, rfl, h⟩
/-! ### list(range(n)) -/
def dLstRg (t : DTE) : DTE := fun σd μ Q => t σd μ fun x μ1 => ∃ j : Int, x = .int j ∧ (0 ≤ j ∧ j ≤ 16777216) ∧ Q (.lst (rngD 0 j.toNat)) μ1
theorem rgV_rel {K bx M H} (n : Nat) : Rps K bx M H (rngD 0 n) (rgV 0 n) := by
  unfold rngD rgV
  rw [show ((n : Int) - 0).toNat = n by omega]
  have : ∀ l : List Nat, Rps K bx M H (l.map fun (i : Nat) => D.int (0 + (i : Int))) (l.map fun i => V.int (0 + (i : Nat))) := fun l => by
    induction l with
    | nil => rfl
    | cons a l ih => exact ⟨_, _, rfl, rfl, ih⟩
  exact this _
theorem de_listRg {a : Expr} {p p2 pos pos2 : Pos} (he : DE X a t) (hp : ∀ te, PE X a te → PE X (.Call (.Name "list" p) [.Call (.Name "range" p2) [a] [] pos2] [] pos) (tLstRg (tRg1 te))) : DE X (.Call (.Name "list" p) [.Call (.Name "range" p2) [a] [] pos2] [] pos) (dLstRg t) := by
  obtain ⟨te, p, h⟩ := he.ex
  refine ⟨_, hp _ p, fun G M σ H σd μ Q R hK S q k => ?_⟩
  refine h G M σ H σd μ _ _ hK S q fun v H1 d μ1 S1 r1 q1 => ?_
  obtain ⟨j, rfl, ⟨j0, j1⟩, q1⟩ := q1
  obtain ⟨n, rfl⟩ : ∃ n : Nat, j = n := ⟨j.toNat, by omega⟩
  rw [Int.toNat_natCast] at q1
  have e : v = .int (n : Int) := r1
  subst e
  exact ⟨n, rfl, RgOk.of_le (by decide) j1 (by decide) j0, fun q hq => k _ _ _ _ (S1.new hq) (S1.newL hq (rgV_rel n)) q1⟩
theorem e_lstRg {σ : DSt} {μ : Mem} {Q : D → Mem → Prop} (h : t σ μ fun x μ1 => ∃ j : Int, x = .int j ∧ (0 ≤ j ∧ j ≤ 16777216) ∧ Q (.lst (rngD 0 j.toNat)) μ1) : dLstRg t σ μ Q := h
end
end DL

set_option maxRecDepth 100000
namespace DL
open PySem PySem.Spec L2
/-! ### x = [.. for ..], a list of one's own -/
section
variable {X : Cx} {elt tg iter : Expr} {ifs : List Expr} {scope : Scope} {own : List (Str × Nat)} {pos : Pos} {ti : DTI} {g' : TG} {g : DTG} {tt : DTT} {te : DTE} {tt' : TT}
theorem lc_sndO {wi : TI} (i0 : Nat) (hi : ∀ (G : Gm) (M : Addr → Prop) (σ : St) (H : Hp) (σd : DSt) (μ : Mem) (Q : List D → Mem → Prop) (R : It → Hp → Prop), G.K = X.K → SR G M σ H σd μ → ti σd μ Q →
      (∀ (F : List (V × D)) J H' items μ', SR (G.pinL F) M σ H' σd μ' → ItOk G.K G.bx F J items → Q items μ' → R J H') → wi σ H R) (hg : CG X.K (own.map (·.2)) g' g)
    (ht : ∀ (G : Gm) (M : Addr → Prop) (σ : St) (H : Hp) (σd : DSt) (μ : Mem) (Q : Bool → Mem → Prop) (R : Bool → Hp → Prop), G.K = X.K → SR G M σ H σd μ → tt σd μ Q → (∀ b H' μ', SR G M σ H' σd μ' → Q b μ' → R b H') → tt' σ H R)
    (G : Gm) (M : Addr → Prop) (σ : St) (H : Hp) (σd : DSt) (μ : Mem) (Q : D → Mem → Prop) (R : VK) (hK : G.K = X.K) (S : SR G M σ H σd μ) (hq : dLc ti g tt te (own.map (·.2)) σd μ Q)
    (hil : i0 < σd.length) (k : ∀ (p : Addr) M' H' acc μ', SR G M' (σ.set i0 (some (.ref p))) H' (σd.set i0 (some (.own acc))) μ' → Q (.lst acc) μ' → R (.ref p) H') : tLc wi g' tt' (liftE X.K te) (own.map (·.2)) σ H R := by
  refine hi G M σ H σd μ _ _ hK S hq fun F J H1 items μ1 S1 ok q1 => ?_
  intro Dn hn
  have nM : ¬ M Dn := fun m => by obtain ⟨o, e⟩ := S1.mt Dn m; rw [hn] at e; cases e
  have nb : Dn ∉ G.bx := fun z => nM (S1.m0 Dn (S1.bm Dn z))
  have kD : Kp M (fun a => M a ∨ a = Dn) H1 H1 := fun a o m e => ⟨e, fun z => z.elim m fun z => by rw [z, hn] at e; cases e⟩
  have kDn : ∀ {H2 : Hp} {o : HO}, Kp (fun a => M a ∨ a = Dn) (fun a => M a ∨ a = Dn) H2 (upd H2 Dn o) := fun {H2 o} a u m e => ⟨by rw [upd_ne (fun z => m (.inr z))]; exact e, m⟩
  have bxne : ∀ {i : Nat} {a : Addr}, G.bx[i]? = some a → a ≠ Dn := fun {i a} e z => nb (by rw [← z]; exact List.mem_of_getElem? e)
  refine ⟨fun i m H2 => m = items.length - i ∧ i ≤ items.length ∧ ∃ μ2 acc xs, Aft G.K G.bx (fun a => M a ∨ a = Dn) H1 H2 μ2 ∧ H2 Dn = some (.lst xs) ∧ Rps G.K G.bx (fun a => M a ∨ a = Dn) H2 acc xs ∧
      dLcLoop g tt te (hideD σd (own.map (·.2))) (items.drop i) acc μ2 fun acc μ2 => Q (.lst acc) μ2, ⟨items.length, rfl, Nat.zero_le _, μ1, [], [], ?_, upd_same, rfl, q1⟩, ?_⟩
  · refine ⟨fun a o _ e => by rw [upd_ne (ne_of_none e hn)]; exact e, S1.blen, fun i a l e1 e2 => ?_⟩
    obtain ⟨ys, h1, h2⟩ := S1.box i a l e1 e2
    exact ⟨ys, by rw [upd_ne (bxne e1)]; exact h1, Rps.stay kDn _ _ (Rps.stay kD _ _ h2)⟩
  · rintro i m H2 ⟨rfl, hi, μ2, acc, xs, A, hD, rs, q2⟩
    have S2 := S1.sub (own.map (·.2)) A hn hD
    have mF : ∀ q ∈ F, q ∈ (G.pinL F).Fr := fun q hq => List.mem_append_left _ hq
    by_cases hlt : i < items.length
    · refine .inr ⟨ok.go ⟨G.K, G.bx, fun a => M a ∨ a = Dn, H2, (G.pinL F).Fr⟩ _ _ H2 _ μ2 i rfl rfl mF S2 hlt, fun H' => ∃ μ2 acc xs, Aft G.K G.bx (fun a => M a ∨ a = Dn) H1 H' μ2 ∧ H' Dn = some (.lst xs) ∧ Rps G.K G.bx (fun a => M a ∨ a = Dn) H' acc xs ∧
          dLcLoop g tt te (hideD σd (own.map (·.2))) (items.drop (i + 1)) acc μ2 fun acc μ2 => Q (.lst acc) μ2, ?_, ?_⟩
      · rintro H3 ⟨μ3, acc3, xs3, h1, h2, h3, h4⟩
        exact ⟨items.length - (i + 1), by omega, rfl, hlt, μ3, acc3, xs3, h1, h2, h3, h4⟩
      · intro x H3 y
        rw [List.drop_eq_getElem_cons hlt] at q2
        obtain ⟨S3, r3⟩ := ok.yld ⟨G.K, G.bx, fun a => M a ∨ a = Dn, H2, (G.pinL F).Fr⟩ _ _ H2 _ μ2 i x H3 items[i] rfl rfl mF S2 (List.getElem?_eq_getElem hlt) y
        refine hg ⟨G.K, G.bx, fun a => M a ∨ a = Dn, H2, (G.pinL F).Fr⟩ _ _ H3 _ μ2 items[i] x _ _ hK S3 r3 q2 fun σ4 H4 σd4 μ4 S4 w4 q4 => ?_
        refine ⟨w4.trans ?_, ?_⟩
        · exact wipe_wipe σ _
        refine ht ⟨G.K, G.bx, fun a => M a ∨ a = Dn, H2, (G.pinL F).Fr⟩ _ σ4 H4 σd4 μ4 _ _ hK S4 q4 fun b H5 μ5 S5 q5 => ?_
        have back : ∀ {H6 : Hp} {μ6 : Mem}, SR ⟨G.K, G.bx, fun a => M a ∨ a = Dn, H2, (G.pinL F).Fr⟩ (fun a => M a ∨ a = Dn) σ4 H6 σd4 μ6 → Aft G.K G.bx (fun a => M a ∨ a = Dn) H1 H6 μ6 ∧ H6 Dn = some (.lst xs) ∧ Rps G.K G.bx (fun a => M a ∨ a = Dn) H6 acc xs := fun {H6 μ6} S6 => by
          refine ⟨A.trans (.of_sr S6), S6.keep Dn _ nb hD, ?_⟩
          exact Rps.stay (fun a o m e => ⟨S6.keep a o (fun z => m (.inl (S1.m0 a (S1.bm a z)))) e, m⟩) _ _ rs
        cases b with
        | false =>
          rw [if_neg (by decide)] at q5 ⊢
          obtain ⟨h1, h2, h3⟩ := back S5
          exact ⟨μ5, acc, xs, h1, h2, h3, q5⟩
        | true =>
          rw [if_pos rfl] at q5 ⊢
          refine ⟨⟨G.K, G.bx, fun a => M a ∨ a = Dn, H2, (G.pinL F).Fr⟩, _, σd4, μ5, _, hK, S5, q5, fun v H6 d μ6 S6 r6 q6 => ?_⟩
          obtain ⟨h1, h2, h3⟩ := back S6
          refine ⟨xs, h2, by rw [h3.len]; exact q6.1, μ6, acc ++ [d], xs ++ [v], ⟨fun a o hb e => by rw [upd_ne (ne_of_none e hn)]; exact h1.keep a o hb e, h1.blen, fun j a l e1 e2 => ?_⟩, upd_same, Rps.stay kDn _ _ (h3.app (.one r6)), q6.2⟩
          obtain ⟨ys, e3, r3⟩ := h1.box j a l e1 e2
          exact ⟨ys, by rw [upd_ne (bxne e1)]; exact e3, Rps.stay kDn _ _ r3⟩
    · have e : i = items.length := by omega
      subst e
      rw [List.drop_length] at q2
      have S3 := (S1.unpinL.ownSet (l := []) (xs := []) i0 hn rfl).after (H' := upd H2 Dn (.lst [])) (μ' := μ2) ⟨fun a o hb e => by
          by_cases z : a = Dn
          · subst z; rw [upd_same] at e ⊢; exact e
          · rw [upd_ne z] at e ⊢; exact A.keep a o hb e, A.blen, fun i a l e1 e2 => by
          obtain ⟨ys, h1, h2⟩ := A.box i a l e1 e2
          exact ⟨ys, by rw [upd_ne (bxne e1)]; exact h1, Rps.stay kDn _ _ h2⟩⟩
      have S4 := S3.ownUpd i0 (List.getElem?_set_self hil) (List.getElem?_set_self (by rw [S1.len]; exact hil)) (Rps.stay kDn _ _ rs)
      have e : upd (upd H2 Dn (.lst [])) Dn (.lst xs) = H2 := funext fun a => by
        by_cases z : a = Dn
        · subst z; rw [upd_same, hD]
        · rw [upd_ne z, upd_ne z]
      rw [e, List.set_set] at S4
      exact .inl ⟨ok.stop ⟨G.K, G.bx, fun a => M a ∨ a = Dn, H2, (G.pinL F).Fr⟩ _ _ H2 _ μ2 rfl rfl mF S2, k Dn _ H2 acc μ2 S4 q2⟩

end
def dOwnLc (i : Nat) (t : DTE) : DTS := fun De σd μ => i < σd.length ∧ t σd μ fun d μ' => match d with | .lst l => De.nx (σd.set i (some (.own l))) μ' | _ => False
theorem e_ownLc {i : Nat} {t : DTE} {De : DEnds} {σ : DSt} {μ : Mem} (h1 : i < σ.length) (h : t σ μ fun d μ' => match d with | .lst l => De.nx (σ.set i (some (.own l))) μ' | _ => False) : dOwnLc i t De σ μ := ⟨h1, h⟩
section
variable {X : Cx} {elt tg iter : Expr} {ifs : List Expr} {scope : Scope} {own : List (Str × Nat)} {pos spos py : Pos} {ti : DTI} {g' : TG} {g : DTG} {tt : DTT} {te : DTE} {y : Str} {i : Nat}
theorem ds_ownLc (hi : DI X tg iter ti) (hg : CG X.K (own.map (·.2)) g' g)
    (ht : ∃ tt', (∀ (s : Shared) (H : Hp) (C : Addr) (cl : List (Str × Addr)) (fp : List Addr), PTs (X.blk s H scope (compEnvC scope cl C X.env) fp) ifs tt') ∧
      ∀ (G : Gm) (M : Addr → Prop) (σ : St) (H : Hp) (σd : DSt) (μ : Mem) (Q : Bool → Mem → Prop) (R : Bool → Hp → Prop), G.K = X.K → SR G M σ H σd μ → tt σd μ Q → (∀ b H' μ', SR G M σ H' σd μ' → Q b μ' → R b H') → tt' σ H R)
    (he : ∀ (s : Shared) (H : Hp) (C : Addr) (cl : List (Str × Addr)) (fp : List Addr), DE (X.blk s H scope (compEnvC scope cl C X.env) fp) elt te)
    (hp : ∀ wi tt' te', PI X tg iter wi → (∀ (s : Shared) (H : Hp) (C : Addr) (cl : List (Str × Addr)) (fp : List Addr), PTs (X.blk s H scope (compEnvC scope cl C X.env) fp) ifs tt') →
      (∀ (s : Shared) (H : Hp) (C : Addr) (cl : List (Str × Addr)) (fp : List Addr), PE (X.blk s H scope (compEnvC scope cl C X.env) fp) elt te') → PS X (.Assign [.Name y py] (.ListComp elt [⟨tg, iter, ifs, 0⟩] scope pos) spos) (tAsg (tLc wi g' tt' te' (own.map (·.2))) (gName i))) :
    DS X (.Assign [.Name y py] (.ListComp elt [⟨tg, iter, ifs, 0⟩] scope pos) spos) (dOwnLc i (dLc ti g tt te (own.map (·.2)))) := by
  obtain ⟨wi, p, h⟩ := hi.ex
  obtain ⟨tt', p2, h2⟩ := ht
  refine ⟨_, hp _ _ (liftE X.K te) p p2 fun s H C cl fp => (he s H C cl fp).lift, fun G M σ H σd μ De E hK S q L => ?_⟩
  exact lc_sndO i h hg h2 G M σ H σd μ _ _ hK S q.2 q.1 fun p M' H' acc μ' S' q' => L.nx _ _ _ _ _ S' q'

end
end DL

set_option maxRecDepth 100000
namespace DL
open PySem PySem.Spec L2 PyProof.Rows
section
variable {X : Cx} {e : Expr} {t : DTE} {pos : Pos} {tg : Expr}
/-! ### for i in reversed(range(n)) -/
theorem rngRev_it {K : PySem.W.Frag} {bx : List Addr} (n : Nat) : ItOk K bx [] (Itc (0 + (n : Int) - 1) (-1) n) (rngD 0 n).reverse := by
  refine ⟨?_, ?_, ?_⟩
  · intro G' M σ H σd μ i eK eb hF S' hi
    rw [List.length_reverse, rngD_len] at hi
    exact hi
  · intro G' M σ H σd μ eK eb hF S'
    rw [List.length_reverse, rngD_len]
    exact Nat.le_refl n
  · intro G' M σ H σd μ i x H' d' eK eb hF S' hi y
    obtain ⟨rfl, rfl⟩ := y
    have hi' := (List.getElem?_eq_some_iff.mp hi).1
    rw [List.length_reverse, rngD_len] at hi'
    rw [List.getElem?_reverse (by rw [rngD_len]; exact hi'), rngD_len] at hi
    unfold rngD at hi
    rw [List.getElem?_map, List.getElem?_range (by omega)] at hi
    cases hi
    refine ⟨S', ?_⟩
    show V.int _ = V.int _
    congr 1
    omega
def dRevRg (t : DTE) : DTI := fun σd μ Q => t σd μ fun x μ1 => ∃ j : Int, x = .int j ∧ (-(2 ^ 62) ≤ j ∧ j < 2 ^ 62) ∧ Q (rngD 0 j.toNat).reverse μ1
theorem di_revRg {a : Expr} {p p2 pos2 : Pos} (he : DE X a t) (hp : ∀ te, PE X a te → PI X tg (.Call (.Name "reversed" p) [.Call (.Name "range" p2) [a] [] pos2] [] pos) (iRevR (tRg1 te))) : DI X tg (.Call (.Name "reversed" p) [.Call (.Name "range" p2) [a] [] pos2] [] pos) (dRevRg t) := by
  obtain ⟨te, p, h⟩ := he.ex
  refine ⟨_, hp _ p, fun G M σ H σd μ Q R hK S q k => ?_⟩
  refine h G M σ H σd μ _ _ hK S q fun v H1 d μ1 S1 r1 q1 => ?_
  obtain ⟨j, rfl, ⟨j0, j1⟩, q1⟩ := q1
  have e : v = .int j := r1
  subst e
  refine ⟨j, rfl, by decide, by decide, j0, j1, ?_⟩
  rw [Int.sub_zero]
  exact k [] _ _ _ _ (S1.pinL fun q hq => nomatch hq) (rngRev_it j.toNat) q1
theorem e_revRg {σ : DSt} {μ : Mem} {Q : List D → Mem → Prop} (h : t σ μ fun x μ1 => ∃ j : Int, x = .int j ∧ (-(2 ^ 62) ≤ j ∧ j < 2 ^ 62) ∧ Q (rngD 0 j.toNat).reverse μ1) : dRevRg t σ μ Q := h
theorem e_revRg1 {R : Int → Prop} {j : Int} (hj : -(2 ^ 62) ≤ j ∧ j < 2 ^ 62) (h : R j) : ∃ j' : Int, D.int j = .int j' ∧ (-(2 ^ 62) ≤ j' ∧ j' < 2 ^ 62) ∧ R j' := ⟨j, rfl, hj, h⟩
end
/-! ### x = a + b, a list of one's own -/
section
variable {X : Cx} {pos : Pos} {ta tb : DTE}
def dOwnAdd (i : Nat) (ta tb : DTE) : DTS := fun De σd μ => ta σd μ fun x μ1 => tb σd μ1 fun y μ2 => ∃ l m, rawOf μ2 x = some l ∧ rawOf μ2 y = some m ∧ l.length + m.length ≤ sizeLine ∧ De.nx (σd.set i (some (.own (l ++ m)))) μ2
theorem ds_ownAdd {i : Nat} {x : Str} {pos' p2 : Pos} {a b : Expr} (hN : X.N.Nodup) (hi : X.N[i]? = some x) (hx : Loc X.env.scope x) (ha : DE X a ta) (hb : DE X b tb) (hs : swapsWith (.BinOp a .Add b p2) (some (.Name x pos')) pos.line X.env = pure false := by rfl) (hf : X.fn x = true ∨ X.env.scope.names.lookup x = some .local := by first | exact .inl rfl | exact .inr rfl | assumption) :
    DS X (.Assign [.Name x pos'] (.BinOp a .Add b p2) pos) (dOwnAdd i ta tb) := by
  obtain ⟨te, pa, h1⟩ := ha.ex
  obtain ⟨te', pb, h2⟩ := hb.ex
  refine ⟨_, ps_set hN hi hx (pe_op op_cat pa pb) hs hf, fun G M σ H σd μ De E hK S q L => ?_⟩
  refine h1 G M σ H σd μ _ _ hK S q fun v H1 d μ1 S1 r1 q1 => ?_
  refine h2 (G.pin v d) M σ H1 σd μ1 _ _ hK (S1.pin r1) q1 fun v2 H2 d2 μ2 S2 r2 q2 => ?_
  obtain ⟨S2', r1'⟩ := S2.unpin
  obtain ⟨l, m, e1, e2, z, q⟩ := q2
  obtain ⟨a, xs, rfl, g1, rs⟩ := sq_raw S2' r1' e1
  obtain ⟨b, ys, rfl, g2, rs'⟩ := sq_raw S2' r2 e2
  exact ⟨a, b, xs, ys, rfl, rfl, g1, g2, by rw [rs.len, rs'.len]; exact z, fun p hp => L.nx _ _ _ _ _ (S2'.ownSet i hp (rs.app rs')) q⟩
theorem e_ownAdd {i : Nat} {De : DEnds} {σ : DSt} {μ : Mem} (h : ta σ μ fun x μ1 => tb σ μ1 fun y μ2 => ∃ l m, rawOf μ2 x = some l ∧ rawOf μ2 y = some m ∧ l.length + m.length ≤ sizeLine ∧ De.nx (σ.set i (some (.own (l ++ m)))) μ2) : dOwnAdd i ta tb De σ μ := h
theorem e_ownAdd2 {μ : Mem} {x y : D} {l m : List D} {R : List D → List D → Prop} (h1 : rawOf μ x = some l) (h2 : rawOf μ y = some m) (h3 : l.length + m.length ≤ sizeLine) (h : R l m) : ∃ l m, rawOf μ x = some l ∧ rawOf μ y = some m ∧ l.length + m.length ≤ sizeLine ∧ R l m := ⟨l, m, h1, h2, h3, h⟩
end
end DL

set_option maxRecDepth 100000
namespace DL
open PySem PySem.Spec L2 PyProof.Rows
/-! ### in, not in: flat items -/
def flD : D → Bool
  | .non => true
  | .bl _ => true
  | .int _ => true
  | .str _ => true
  | _ => false
def toV : D → V
  | .bl b => .bl b
  | .int i => .int i
  | .str x => .str x
  | _ => .non
def eqF (x y : D) : Bool := eqV (toV x) (toV y)
def inD (x : D) (l : List D) : Bool := l.any fun y => eqF y x
theorem flat_toV {K bx M H} {d : D} {v : V} (f : flD d = true) (r : Rp K bx M H d v) : v = toV d ∧ flatV v = true := by
  cases d with
  | non => exact ⟨r, by rw [show v = .non from r]; rfl⟩
  | bl b => exact ⟨r, by rw [show v = .bl b from r]; rfl⟩
  | int i => exact ⟨r, by rw [show v = .int i from r]; rfl⟩
  | str x => exact ⟨r, by rw [show v = .str x from r]; rfl⟩
  | _ => cases f
theorem flat_toVs {K bx M H} : ∀ {l : List D} {xs : List V}, l.all flD = true → Rps K bx M H l xs → xs = l.map toV ∧ xs.all flatV = true
  | [], xs, _, r => by rw [show xs = [] from r]; exact ⟨rfl, rfl⟩
  | d :: l, xs, f, r => by
    obtain ⟨v, ys, rfl, r1, r2⟩ := r
    rw [List.all_cons, Bool.and_eq_true] at f
    obtain ⟨e1, f1⟩ := flat_toV f.1 r1
    obtain ⟨e2, f2⟩ := flat_toVs f.2 r2
    exact ⟨by rw [e1, e2]; rfl, by rw [List.all_cons, f1, f2]; rfl⟩
section
variable {X : Cx}
def dIn (neg : Bool) : DR2 := fun x y μ Q => ∃ l, seqOf μ y = some l ∧ flD x = true ∧ l.all flD = true ∧ Q (.bl (if neg then !inD x l else inD x l)) μ
theorem inV_map (x : D) (l : List D) : inV (toV x) (l.map toV) = inD x l := by
  unfold inV inD eqF
  rw [List.any_map]
  rfl
theorem od_in : OD X (compareOp .In) (dIn false) := by
  refine ⟨_, op_in_seq, fun G M σ H σd μ x y dx dy Q R hK S rx ry q k => ?_⟩
  obtain ⟨l, e, fx, fl, q⟩ := q
  obtain ⟨a, xs, rfl, hs, rs⟩ := sq_seq S ry e
  obtain ⟨e1, f1⟩ := flat_toV fx rx
  obtain ⟨e2, f2⟩ := flat_toVs fl rs
  subst e1 e2
  refine ⟨a, _, rfl, by rw [← hK]; exact hs, f1, f2, ?_⟩
  rw [inV_map]
  exact k _ _ (.bl _) _ S rfl q
theorem od_notIn : OD X (compareOp .NotIn) (dIn true) := by
  refine ⟨_, op_notIn_seq, fun G M σ H σd μ x y dx dy Q R hK S rx ry q k => ?_⟩
  obtain ⟨l, e, fx, fl, q⟩ := q
  obtain ⟨a, xs, rfl, hs, rs⟩ := sq_seq S ry e
  obtain ⟨e1, f1⟩ := flat_toV fx rx
  obtain ⟨e2, f2⟩ := flat_toVs fl rs
  subst e1 e2
  refine ⟨a, _, rfl, by rw [← hK]; exact hs, f1, f2, ?_⟩
  rw [inV_map]
  exact k _ _ (.bl _) _ S rfl q
theorem e_in {x y : D} {μ : Mem} {Q : D → Mem → Prop} {l : List D} (h1 : seqOf μ y = some l) (h2 : flD x = true) (h3 : l.all flD = true) (h : Q (.bl (inD x l)) μ) : dIn false x y μ Q := ⟨l, h1, h2, h3, h⟩
theorem e_notIn {x y : D} {μ : Mem} {Q : D → Mem → Prop} {l : List D} (h1 : seqOf μ y = some l) (h2 : flD x = true) (h3 : l.all flD = true) (h : Q (.bl (!inD x l)) μ) : dIn true x y μ Q := ⟨l, h1, h2, h3, h⟩
def dIsB : DR2 := fun x y μ Q => ∃ a b, x = .bl a ∧ y = .bl b ∧ Q (.bl (decide (a = b))) μ
theorem od_isB : OD X (compareOp .Is) dIsB := by
  refine ⟨_, op_is_bl, fun G M σ H σd μ x y dx dy Q R hK S rx ry q k => ?_⟩
  obtain ⟨a, b, rfl, rfl, q⟩ := q
  exact ⟨a, b, rx, ry, k _ _ (.bl _) _ S rfl q⟩
def dNotB : DR2 := fun x y μ Q => ∃ a b, x = .bl a ∧ y = .bl b ∧ Q (.bl (!decide (a = b))) μ
theorem od_notB : OD X (compareOp .IsNot) dNotB := by
  refine ⟨_, op_isnot_bl, fun G M σ H σd μ x y dx dy Q R hK S rx ry q k => ?_⟩
  obtain ⟨a, b, rfl, rfl, q⟩ := q
  exact ⟨a, b, rx, ry, k _ _ (.bl _) _ S rfl q⟩
theorem e_isB {a b : Bool} {μ : Mem} {Q : D → Mem → Prop} (h : Q (.bl (decide (a = b))) μ) : dIsB (.bl a) (.bl b) μ Q := ⟨a, b, rfl, rfl, h⟩
theorem e_notB {a b : Bool} {μ : Mem} {Q : D → Mem → Prop} (h : Q (.bl (!decide (a = b))) μ) : dNotB (.bl a) (.bl b) μ Q := ⟨a, b, rfl, rfl, h⟩
/-! ### math.gcd -/
def dGcd : DRC := fun ds μ Q => ∃ a b : Int, ds = [.int a, .int b] ∧ Q (.int ((Nat.gcd a.natAbs b.natAbs : Nat) : Int)) μ
theorem cd_gcd : CD X (.builtin "math.gcd") dGcd := by
  refine ⟨_, cr_gcd, fun G M σ H σd μ xs ds Q R hK S r q k => ?_⟩
  obtain ⟨i, j, rfl, q⟩ := q
  obtain ⟨v, v', rfl, r1, r2⟩ := rps2 r
  exact ⟨i, j, by rw [show v = .int i from r1, show v' = .int j from r2], k _ _ _ _ S (rpI _) q⟩
theorem de_callBfun {x : Str} {p pos : Pos} {e : Expr} {es : List Expr} {id : String} {rd : DRC} {tr : DTA} (hc : CD X (.builtin id) rd) (hg : Gl X x) (hm : X.mg x = some (.builtin id)) (ha : DA X (e :: es) tr) (hdb : (x == ("__debug__" : Str)) = false := by decide)
    (he : starEach (e :: es) X.env = (false, eval e X.env) :: starEach es X.env := by rfl) (hpl : (backTo pos (starEach es X.env)).any (·.1) = false := by rfl) : DE X (.Call (.Name x p) (e :: es) [] pos) (dCB rd tr) := by
  obtain ⟨r, hc, hr⟩ := hc.ex
  obtain ⟨te, p, h⟩ := ha.ex
  refine ⟨_, pe_callBfun hc hg hm p hdb he hpl, fun G M σ H σd μ Q R hK S hq k => ?_⟩
  exact h G M σ H σd μ _ _ hK S hq fun vs H1 ds μ1 S1 r1 q1 => hr G M σ H1 σd μ1 _ _ _ _ hK S1 r1 q1 k
theorem e_gcd {a b : Int} {μ : Mem} {Q : D → Mem → Prop} (h : Q (.int ((Nat.gcd a.natAbs b.natAbs : Nat) : Int)) μ) : dGcd [.int a, .int b] μ Q := ⟨a, b, rfl, h⟩
end
end DL

set_option maxRecDepth 100000
namespace DL
open PySem PySem.Spec L2 PyProof.Rows
section
variable {X : Cx} {sts : List Stmt} {u : DTS}
/-- a list left as a value, whether it is one's own or already left -/
def dFreezeA (i : Nat) (u : DTS) : DTS := fun De σd μ => (∃ l, σd[i]? = some (some (.own l)) ∧ u De (σd.set i (some (.lst l))) μ) ∨ (∃ l, σd[i]? = some (some (.lst l)) ∧ u De σd μ)
theorem dss_freezeA (i : Nat) (h : DSs X sts u) : DSs X sts (dFreezeA i u) := by
  obtain ⟨ts, p, h⟩ := h.ex
  refine ⟨_, p, fun G M σ H σd μ De E hK S q L => ?_⟩
  rcases q with ⟨l, e, q⟩ | ⟨l, e, q⟩
  · obtain ⟨M', S'⟩ := S.freeze e
    exact h G M' σ H _ μ De E hK S' q L
  · exact h G M σ H _ μ De E hK S q L
theorem e_frzA1 {i : Nat} {l : List D} {De : DEnds} {σ : DSt} {μ : Mem} (h1 : σ[i]? = some (some (.own l))) (h : u De (σ.set i (some (.lst l))) μ) : dFreezeA i u De σ μ := .inl ⟨l, h1, h⟩
theorem e_frzA2 {i : Nat} {l : List D} {De : DEnds} {σ : DSt} {μ : Mem} (h1 : σ[i]? = some (some (.lst l))) (h : u De σ μ) : dFreezeA i u De σ μ := .inr ⟨l, h1, h⟩
end
end DL

set_option maxRecDepth 100000
namespace DL
open PySem PySem.Spec PyProof.Rows L2
/-! ### ranges with a step above 0, of any size -/
theorem turn_longC {P : Program} {w : World} {K : PySem.W.Frag} {tg : Expr} (it : Addr) (lo c : Int) (n : Nat) : Turn P w K tg (Itc lo c n) [it] it (fun i h => IsLongIter h it (lo + (i : Nat) * c) ((n : Int) - (i : Nat)) c) := by
  refine ⟨List.mem_singleton.mpr rfl, ?_, fun i h h' st k => k it (List.mem_singleton.mpr rfl) _ st, ?_, ?_, fun _ _ _ _ _ st h => wpAny_pyIter_longiter st h⟩
  · intro i h st b hb
    cases List.mem_singleton.mp hb
    refine ⟨_, st, fun v z => ?_⟩
    cases (show Data.fields _ = Data.cell v from z)
  · rintro X rfl rfl rfl hc i pins s σ H E I hf st hg
    have hit := hf it (List.mem_singleton.mpr rfl)
    refine (Walks.longrange (prog := X.prog) (w := X.w) (I.ok.hd hc) it lo c n).item i s _ _ hg st ?_
    rintro v h' tk ⟨t, rfl⟩ st' kk
    have J : Inv X pins σ H { s with heap := h', toks := tk } := I.turned (fun b o hb e => kk b o (fun z => hb (List.mem_singleton.mp z)) e) hit.1 hit.2.1 hit.2.2.2.1 hit.2.2.2.2.1 hit.2.2.2.2.2
    refine ⟨_, rfl, go_of (s := { s with heap := h', toks := tk }) (n := "longrange_iterator") st' rfl rfl (by decide) ?_⟩
    exact ⟨.int (lo + (i : Nat) * c), H, J, ⟨t, rfl⟩, ⟨rfl, rfl⟩, st', fun b hb => (hf b hb).1⟩
  · rintro X rfl rfl rfl hc i pins s σ H E I hf st hg
    have hit := hf it (List.mem_singleton.mpr rfl)
    have hn : n ≤ i := hg
    refine wpAny_pyNext_long_end (I.ok.hd hc) st (by omega) fun h' eb => ⟨rfl, ?_⟩
    exact I.turned (t' := s.toks) (fun b o hb e => eb b o hb e) hit.1 hit.2.1 hit.2.2.2.1 hit.2.2.2.2.1 hit.2.2.2.2.2
theorem rangeSize_nn {a b c : Int} (h : 0 < c) : 0 ≤ Builtin.Range.rangeSize a b c := by
  unfold Builtin.Range.rangeSize
  rw [if_pos (show c > 0 from h)]
  split
  · have := Int.ediv_nonneg (show 0 ≤ b - a - 1 by omega) (Int.le_of_lt h)
    omega
  · decide
theorem range_wideC {X : Cx} {tg : Expr} {pins : List (Addr × Obj)} {σ : List (Option V)} {H : Hp} {s : Shared} {R : It → Hp → Prop} {E : Value → Shared → Prop} {lo hi c : Int} {t u v : Tok} {tk : Nat} (c0 : 0 < c) (I : Inv X pins σ H s)
    (q : R (Itc lo c (Builtin.Range.rangeSize lo hi c).toNat) H) : wpAny (model X.prog X.w) X.A (pyIter (.ref s.heap.objs.size)) (PIE X pins σ tg R) E { s with heap := s.heap.push { cls := .type "range", data := .fields #[.int lo t, .int hi u, .int c v] }, toks := tk } := by
  let h1 := s.heap.push { cls := .type "range", data := .fields #[.int lo t, .int hi u, .int c v] }
  have I1 : Inv X pins σ H { s with heap := h1, toks := tk } := I.kept fun b o e => Heap.get?_push_of_some _ e
  have sz : (((Builtin.Range.rangeSize lo hi c).toNat : Nat) : Int) - ((0 : Nat) : Int) = Builtin.Range.rangeSize lo hi c := by have := rangeSize_nn (a := lo) (b := hi) c0; omega
  have e1 : lo + ((0 : Nat) : Int) * c = lo := by simp
  have new : ∀ b ∈ [h1.objs.size], FpOk X pins H b := fun b hb => by
    cases List.mem_singleton.mp hb
    exact I1.fpOk (Nat.le_refl _) (I1.hok.fresh (Nat.le_refl _))
  cases sm : Builtin.Range.small lo hi c with
  | true =>
    refine wpAny_pyIter_range (IsRange.new ..) sm ?_
    refine ⟨h1.objs.size, [h1.objs.size], _, _, H, rfl, I1.kept (t' := tk) fun b o e => Heap.get?_push_of_some _ e, turn_rangeC _ lo c (Builtin.Range.rangeSize lo hi c).toNat, ?_, new, q⟩
    show IsRangeIter _ _ (lo + ((0 : Nat) : Int) * c) ((((Builtin.Range.rangeSize lo hi c).toNat : Nat) : Int) - ((0 : Nat) : Int)) c
    rw [e1, sz]
    exact Heap.get?_push_size _ rfl
  | false =>
    refine wpAny_pyIter_longrange (IsRange.new ..) sm ?_
    refine ⟨h1.objs.size, [h1.objs.size], _, _, H, rfl, I1.kept (t' := tk) fun b o e => Heap.get?_push_of_some _ e, turn_longC _ lo c (Builtin.Range.rangeSize lo hi c).toNat, ?_, new, q⟩
    show IsLongIter _ _ (lo + ((0 : Nat) : Int) * c) ((((Builtin.Range.rangeSize lo hi c).toNat : Nat) : Int) - ((0 : Nat) : Int)) c
    rw [e1, sz]
    exact Heap.get?_push_size _ rfl
def iRngC (ta : TA) : TI := fun σ H R => ta σ H fun vs H1 => ∃ i j c : Int, vs = [.int i, .int j, .int c] ∧ 0 < c ∧ c.natAbs.log2 < 9000 ∧ R (Itc i c (Builtin.Range.rangeSize i j c).toNat) H1
theorem pi_rangeC {X : Cx} {tg a b c : Expr} {ta : TA} {p pos : Pos} (hg : Gl X "range") (hm : X.mg "range" = none) (ha : PA X [a, b, c] ta)
    (hs : starEach [a, b, c] X.env = (false, eval a X.env) :: starEach [b, c] X.env := by rfl) (hpl : (backTo pos (starEach [b, c] X.env)).any (·.1) = false := by rfl) :
    PI X tg (.Call (.Name "range" p) [a, b, c] [] pos) (iRngC ta) := by
  constructor
  intro pins s σ H R I h
  refine Call_ (ld_blt I hg hm boot_range (PyProof.Rows.callWith_type1 (thn (ha.run pos pins s σ H _ I h) ?_) hs hpl))
  rintro us s1 ⟨vs, H1, I1, r, i, j, k, rfl, k0, kl, q⟩
  match us, r with
  | [_, _, _], .cons ⟨t, rfl⟩ (.cons ⟨t', rfl⟩ (.cons ⟨t'', rfl⟩ .nil)) => exact call_range_3 (by omega) (range_wideC k0 I1 q) (.inl (PyProof.noPylong_of_log2 kl))
def rngC (lo c : Int) (n : Nat) : List D := (List.range n).map fun (i : Nat) => D.int (lo + (i : Int) * c)
theorem rngC_len (lo c : Int) (n : Nat) : (rngC lo c n).length = n := by unfold rngC; simp
theorem rngC_it {K : PySem.W.Frag} {bx : List Addr} (lo c : Int) (n : Nat) : ItOk K bx [] (Itc lo c n) (rngC lo c n) := by
  refine ⟨?_, ?_, ?_⟩
  · intro G' M σ H σd μ i eK eb hF S' hi
    rw [rngC_len] at hi
    exact hi
  · intro G' M σ H σd μ eK eb hF S'
    rw [rngC_len]
    exact Nat.le_refl n
  · intro G' M σ H σd μ i x H' d' eK eb hF S' hi y
    obtain ⟨rfl, rfl⟩ := y
    unfold rngC at hi
    rw [List.getElem?_map] at hi
    cases q : (List.range n)[i]? with
    | none => rw [q] at hi; cases hi
    | some j =>
      rw [q] at hi
      obtain ⟨_, e⟩ := List.getElem?_eq_some_iff.mp q
      rw [List.getElem_range] at e
      subst e
      cases hi
      exact ⟨S', rfl⟩
theorem rps3 {K bx M H d d' d''} {xs : List V} (h : Rps K bx M H [d, d', d''] xs) : ∃ v v' v'', xs = [v, v', v''] ∧ Rp K bx M H d v ∧ Rp K bx M H d' v' ∧ Rp K bx M H d'' v'' := by
  obtain ⟨v, r, rfl, h1, h2⟩ := h
  obtain ⟨v', v'', rfl, h3, h4⟩ := rps2 h2
  exact ⟨v, v', v'', rfl, h1, h3, h4⟩
def dRngC (t : DTA) : DTI := fun σd μ Q => t σd μ fun ds μ1 => ∃ i j c : Int, ds = [.int i, .int j, .int c] ∧ 0 < c ∧ c.natAbs.log2 < 9000 ∧ Q (rngC i c (Builtin.Range.rangeSize i j c).toNat) μ1
theorem di_rangeC {X : Cx} {tg a b c : Expr} {ta : DTA} {p pos : Pos} (ha : DA X [a, b, c] ta) (hp : ∀ ta', PA X [a, b, c] ta' → PI X tg (.Call (.Name "range" p) [a, b, c] [] pos) (iRngC ta')) : DI X tg (.Call (.Name "range" p) [a, b, c] [] pos) (dRngC ta) := by
  obtain ⟨te, p, h⟩ := ha.ex
  refine ⟨_, hp _ p, fun G M σ H σd μ Q R hK S q k => ?_⟩
  refine h G M σ H σd μ _ _ hK S q fun vs H1 ds μ1 S1 r1 q1 => ?_
  obtain ⟨i, j, c, rfl, c0, cl, q1⟩ := q1
  obtain ⟨v, v', v'', rfl, r, r', r''⟩ := rps3 r1
  exact ⟨i, j, c, by rw [show v = .int i from r, show v' = .int j from r', show v'' = .int c from r''], c0, cl, k [] _ _ _ _ (S1.pinL fun q hq => nomatch hq) (rngC_it i c _) q1⟩
theorem e_rngC {tr : DTA} {σ : DSt} {μ : Mem} {Q : List D → Mem → Prop} (h : tr σ μ fun ds μ1 => ∃ i j c : Int, ds = [.int i, .int j, .int c] ∧ 0 < c ∧ c.natAbs.log2 < 9000 ∧ Q (rngC i c (Builtin.Range.rangeSize i j c).toNat) μ1) : dRngC tr σ μ Q := h
theorem e_rngCb {i j c : Int} {Q : List D → Prop} (c0 : 0 < c) (cl : c.natAbs.log2 < 9000) (h : Q (rngC i c (Builtin.Range.rangeSize i j c).toNat)) : ∃ i' j' c' : Int, [D.int i, D.int j, D.int c] = [.int i', .int j', .int c'] ∧ 0 < c' ∧ c'.natAbs.log2 < 9000 ∧ Q (rngC i' c' (Builtin.Range.rangeSize i' j' c').toNat) := ⟨i, j, c, rfl, c0, cl, h⟩
/-- c, 2 * c, .., n * c -/
theorem rangeSize_mul {c : Int} (c0 : 0 < c) (n : Nat) : (Builtin.Range.rangeSize c (c * n + 1) c).toNat = n := by
  unfold Builtin.Range.rangeSize
  rw [if_pos (show c > 0 from c0)]
  cases n with
  | zero => rw [if_neg (by simp; omega)]; rfl
  | succ n =>
    have e : c * ((n + 1 : Nat) : Int) = c * n + c := by rw [Int.natCast_add, Int.mul_add]; simp
    have h0 : 0 ≤ c * (n : Int) := Int.mul_nonneg (Int.le_of_lt c0) (by omega)
    rw [e, if_pos (by omega), show c * (n : Int) + c + 1 - c - 1 = n * c by rw [Int.mul_comm]; omega, Int.mul_ediv_cancel _ (by omega)]
    omega
end DL

set_option maxRecDepth 100000
namespace DL
open PySem PySem.Spec L2
/-! ### a list of one's own as the first of four names -/
def Gm.hold (G : Gm) (p : Addr) : Gm := { G with H0 := fun a => if a = p then some (.lst []) else G.H0 a }
section
variable {G : Gm} {M : Addr → Prop} {σ : L2.St} {H : Hp} {σd : DSt} {μ : Mem} {p : Addr}
theorem SR.free (S : SR G M σ H σd μ) (hp : H p = none) : G.H0 p = none ∧ p ∉ G.bx := by
  have nb : p ∉ G.bx := fun hb => by obtain ⟨u, e⟩ := S.mt p (S.m0 p (S.bm p hb)); rw [hp] at e; cases e
  refine ⟨?_, nb⟩
  cases q : G.H0 p with
  | none => rfl
  | some o => have := S.keep p o nb q; rw [hp] at this; cases this
theorem SR.hold (S : SR G M σ H σd μ) (hp : H p = none) : SR (G.hold p) (fun a => M a ∨ a = p) σ (upd H p (.lst [])) σd μ := by
  have nm : ∀ a, M a → a ≠ p := fun a m => by obtain ⟨u, e⟩ := S.mt a m; exact ne_of_none e hp
  have k : Kp M (fun a => M a ∨ a = p) H (upd H p (.lst [])) := fun a o m e => by
    have : a ≠ p := ne_of_none e hp
    exact ⟨by rw [upd_ne this]; exact e, fun z => z.elim m this⟩
  refine ⟨S.len, fun j d e => ?_, S.dist, S.blen, fun j a l e1 e2 => ?_, fun a o h1 h2 => ?_, fun a m => .inl (S.m0 a m), fun q hq => Rp.stay k _ _ (S.fr q hq), fun a m => ?_, S.nd, S.bm, fun a m => ?_⟩
  · obtain ⟨v, ev, r⟩ := S.slot j d e
    refine ⟨v, ev, ?_⟩
    cases d with
    | own l =>
      obtain ⟨q, xs, rfl, m, h0, hq, r⟩ := r
      have ne : q ≠ p := ne_of_none hq hp
      exact ⟨q, xs, rfl, .inl m, by show (if q = p then _ else _) = none; rw [if_neg ne]; exact h0, by rw [upd_ne ne]; exact hq, Rps.stay k _ _ r⟩
    | _ => exact Rp.stay k _ _ r
  · obtain ⟨ys, e3, r3⟩ := S.box j a l e1 e2
    exact ⟨ys, by rw [upd_ne (ne_of_none e3 hp)]; exact e3, Rps.stay k _ _ r3⟩
  · by_cases z : a = p
    · subst z
      have h2 : (if a = a then some (HO.lst []) else G.H0 a) = some o := h2
      rw [if_pos rfl] at h2
      cases h2; exact upd_same
    · have h2 : (if a = p then some (HO.lst []) else G.H0 a) = some o := h2
      rw [if_neg z] at h2
      have := S.keep a o h1 h2
      rw [upd_ne z]; exact this
  · rcases m with m | m
    · obtain ⟨u, e⟩ := S.mt a m
      exact ⟨u, by rw [upd_ne (nm a m)]; exact e⟩
    · subst m; exact ⟨_, upd_same⟩
  · obtain ⟨o, e⟩ := S.m0t a m
    show ∃ o, (if a = p then some (HO.lst []) else G.H0 a) = some o
    split
    · exact ⟨_, rfl⟩
    · exact ⟨o, e⟩
theorem SR.take (S : SR (G.hold p) M σ H σd μ) (mp : M p) (f : G.H0 p = none ∧ p ∉ G.bx) (m0t : ∀ a, G.M0 a → ∃ o, G.H0 a = some o) (i : Nat) : SR G M (σ.set i (some (.ref p))) H (σd.set i (some (.own []))) μ := by
  have hh : ∀ {q : Addr}, (G.hold p).H0 q = none → q ≠ p ∧ G.H0 q = none := fun {q} h => by
    have h : (if q = p then some (HO.lst []) else G.H0 q) = none := h
    by_cases z : q = p
    · rw [if_pos z] at h; cases h
    · rw [if_neg z] at h; exact ⟨z, h⟩
  have hp : H p = some (.lst []) := S.keep p _ f.2 (by show (if p = p then _ else _) = _; rw [if_pos rfl])
  refine ⟨by rw [List.length_set, List.length_set]; exact S.len, fun j d e => ?_, fun j j' q l1 l2 e1 e2 e3 e4 => ?_, S.blen, S.box, fun a o h1 h2 => ?_, S.m0, S.fr, S.mt, S.nd, S.bm, m0t⟩
  · by_cases hj : j = i
    · subst hj
      have hl : j < σd.length := by
        have := (List.getElem?_eq_some_iff.mp e).1
        rwa [List.length_set] at this
      rw [List.getElem?_set_self hl] at e
      cases e
      exact ⟨.ref p, by rw [List.getElem?_set_self (by rw [S.len]; exact hl)], p, [], rfl, mp, f.1, hp, rfl⟩
    · rw [List.getElem?_set_ne (Ne.symm hj)] at e
      obtain ⟨v, ev, r⟩ := S.slot j d e
      refine ⟨v, by rw [List.getElem?_set_ne (Ne.symm hj)]; exact ev, ?_⟩
      cases d with
      | own l =>
        obtain ⟨q, xs, rfl, m, h0, hq, r⟩ := r
        exact ⟨q, xs, rfl, m, (hh h0).2, hq, r⟩
      | _ => exact r
  · have old : ∀ {j : Nat} {l' : List D}, j ≠ i → (σd.set i (some (.own [])))[j]? = some (some (.own l')) → (σ.set i (some (.ref p)))[j]? = some (some (.ref q)) → q ≠ p := fun {j l'} hj e1 e3 => by
      rw [List.getElem?_set_ne (Ne.symm hj)] at e1 e3
      obtain ⟨v, ev, p', xs', rfl, m', h0, _⟩ := S.slot j _ e1
      rw [e3] at ev; cases ev
      exact (hh h0).1
    have new : ∀ {j : Nat} {l' : List D}, j = i → (σd.set i (some (.own [])))[j]? = some (some (.own l')) → (σ.set i (some (.ref p)))[j]? = some (some (.ref q)) → q = p := fun {j l'} hj e1 e3 => by
      subst hj
      have hl : j < σd.length := by
        have := (List.getElem?_eq_some_iff.mp e1).1
        rwa [List.length_set] at this
      rw [List.getElem?_set_self (by rw [S.len]; exact hl)] at e3
      cases e3; rfl
    by_cases h1 : j = i
    · by_cases h2 : j' = i
      · rw [h1, h2]
      · exact absurd (new h1 e1 e3) (old h2 e2 e4)
    · by_cases h2 : j' = i
      · exact absurd (new h2 e2 e4) (old h1 e1 e3)
      · rw [List.getElem?_set_ne (Ne.symm h1)] at e1 e3
        rw [List.getElem?_set_ne (Ne.symm h2)] at e2 e4
        exact S.dist j j' q l1 l2 e1 e2 e3 e4
  · refine S.keep a o h1 ?_
    show (if a = p then some (HO.lst []) else G.H0 a) = some o
    rw [if_neg (fun z => by subst z; rw [f.1] at h2; cases h2)]
    exact h2
end
def dOwn4 (i j k l : Nat) (ta : DTA) : DTS := fun De σd μ => ta σd μ fun ds μ1 => ∃ a b c, ds = [a, b, c] ∧ De.nx ((((σd.set i (some (.own []))).set j (some a)).set k (some b)).set l (some c)) μ1
theorem ds_own4 {X : Cx} {i j k l : Nat} {tg b c d : Expr} {ta : DTA} {p1 p2 pos : Pos} {k2} (ha : DA X [b, c, d] ta)
    (hp : ∀ ta', PA X [.List [] p1, b, c, d] ta' → PS X (.Assign [tg] (.Tuple [.List [] p1, b, c, d] k2 p2) pos) (tAsg (tTup ta') (gTup X.K 4 (gCons (gName i) (gCons (gName j) (gCons (gName k) (gCons (gName l) gNil))))))) :
    DS X (.Assign [tg] (.Tuple [.List [] p1, b, c, d] k2 p2) pos) (dOwn4 i j k l ta) := by
  obtain ⟨te, pa, h⟩ := ha.ex
  refine ⟨_, hp _ (pa_cons (pe_lst pa_nil) pa), fun G M σ H σd μ De E hK S q L => ?_⟩
  refine ⟨Nat.zero_le _, fun p hp => ?_⟩
  refine h (G.hold p) _ σ _ σd μ _ _ hK (S.hold hp) q fun vs H2 ds μ1 S2 r2 q2 => ?_
  obtain ⟨a, b, c, rfl, q2⟩ := q2
  obtain ⟨v, v', v'', rfl, ra, rb, rc⟩ := rps3 r2
  refine ⟨by rw [sizeLine_eq]; show 4 ≤ 16777216; decide, fun t ht => ?_⟩
  have S3 := (S2.take (.inr rfl) (S.free hp) S.m0t i).new (o := .tup [.ref p, v, v', v'']) ht
  have k := S2.kpNew (o := .tup [.ref p, v, v', v'']) ht
  refine ⟨t, _, rfl, SqT.of upd_same, rfl, _, _, rfl, _, _, rfl, _, _, rfl, _, _, rfl, rfl, ?_⟩
  exact L.nx _ _ _ _ _ (((S3.set j (Rp.stay k _ _ ra)).set _ (Rp.stay k _ _ rb)).set l (Rp.stay k _ _ rc)) q2
theorem e_own4 {i j k l : Nat} {ta : DTA} {De : DEnds} {σ : DSt} {μ : Mem} (h : ta σ μ fun ds μ1 => ∃ a b c, ds = [a, b, c] ∧ De.nx ((((σ.set i (some (.own []))).set j (some a)).set k (some b)).set l (some c)) μ1) : dOwn4 i j k l ta De σ μ := h
theorem e_own4b {a b c : D} {R : D → D → D → Prop} (h : R a b c) : ∃ a' b' c', [a, b, c] = [a', b', c'] ∧ R a' b' c' := ⟨a, b, c, rfl, h⟩
end DL

set_option maxRecDepth 100000
namespace DL
open PySem PySem.Spec L2
/-! ### f() -/
theorem pe_callG0 {X : Cx} {k : Nat} {f : Addr} {fd : FuncData} {ps : List Str} {sp : Sp} {x : Str} {p pos : Pos} (F : FnG X.prog X.w X.K X.mg X.base k f fd ps sp) (hg : X.A.guards = some []) (hr : Room k X.A) (gl : Gl X x) (hm : X.mg x = some (.ref f)) (hk : PySem.W.keepIn X.K (.ref f) = true) (hb : Binds X.K fd ps [])
    (hdb : (x == ("__debug__" : Str)) = false := by decide) :
    PE X (.Call (.Name x p) [] [] pos) (fun σ H Q => tNil σ H fun vs H1 => sp vs H1 Q E0) := by
  refine ⟨fun pins s σ H Q I h => ?_⟩
  refine wpAny_Call_Name_kw (ld_glob I gl hm ?_ hdb)
  exact PySem.W.callWith_K0 I.kIn hk (go_fnG (us := []) F hg hr hb I .nil h)
theorem de_call0H {X : Cx} {pos : Pos} {k : Nat} {ps : List Str} {F : DSp} {x : Str} {p : Pos} (Hs : Has X.prog X.w X.K X.mg X.base k x ps F) (hg : X.A.guards = some []) (hr : Room k X.A) (gl : Gl X x)
    (hdb : (x == ("__debug__" : Str)) = false := by decide) : DE X (.Call (.Name x p) [] [] pos) (dCall F dNil) := by
  obtain ⟨f, fd, hm, hk, _, hb, Fn⟩ := Hs
  refine ⟨_, pe_callG0 Fn hg hr gl hm hk (.all hb) hdb, fun G M σ H σd μ Q R hK S q kk => ?_⟩
  refine ⟨G.bx, M, [], μ, Q, by rw [← hK]; exact S.entry, rfl, q, fun v H' d μ' A r q => ?_⟩
  rw [← hK] at A r
  exact kk v H' d μ' (S.after A) r q
end DL

set_option maxRecDepth 100000
namespace DL
open PySem PySem.Spec L2
/-! ### divmod -/
section
variable {X : Cx}
def dDivmod : DRC := fun ds μ Q => ∃ i j : Int, ds = [.int i, .int j] ∧ CDivX i j ∧ Q (.tup [.int (i / j), .int (i % j)]) μ
theorem cd_divmod : CD X (.builtin "divmod") dDivmod := by
  refine ⟨_, call_divmodW, fun G M σ H σd μ xs ds Q R hK S r q k => ?_⟩
  obtain ⟨i, j, rfl, c, q⟩ := q
  obtain ⟨v, v', rfl, r1, r2⟩ := rps2 r
  refine ⟨i, j, by rw [show v = .int i from r1, show v' = .int j from r2], c, fun p hp => ?_⟩
  exact k _ _ _ _ (S.new hp) (S.newT hp (l := [.int (i / j), .int (i % j)]) (xs := [.int (i / j), .int (i % j)]) (Rps.of_ints [i / j, i % j])) q
theorem e_divmod {i j : Int} {μ : Mem} {Q : D → Mem → Prop} (c : CDivW i j) (h : Q (.tup [.int (i / j), .int (i % j)]) μ) : dDivmod [.int i, .int j] μ Q := ⟨i, j, rfl, .of c, h⟩
theorem e_dmB {i j : Int} {μ : Mem} {Q : D → Mem → Prop} (c : CDivW i j) (h : Q (.tup [.int (i / j), .int (i % j)]) μ) : dDivmod [.int i, .int j] μ Q := e_divmod c h
theorem e_neSS {s : Str} {μ : Mem} {Q : D → Mem → Prop} (h : Q (.bl false) μ) : dNe (.str s) (.str s) μ Q := e_neS (by rw [decide_eq_true rfl]; exact h)
end
end DL

set_option maxRecDepth 100000
set_option maxHeartbeats 4000000
set_option exponentiation.threshold 50000
namespace Law
open PySem PySem.Spec L2 DL
local macro_rules | `(tactic| walk_at "dr") => `(tactic| first | rfl | assumption | omega | (rw [sizeLine_eq]; simp only [List.length_cons, List.length_nil, List.length_map, List.length_append, List.length_set]; (try omega); done))
local macro_rules | `(tactic| walk_at "d1") => `(tactic| first
  | ((with_reducible refine' e_seq ?_))
  | ((with_reducible refine' e_asg ?_))
  | ((with_reducible refine' e_gname ?_))
  | ((with_reducible refine' e_c ?_))
  | ((with_reducible refine' e_var ?h1 ?h2 ?_); (case h1 => (rfl)); (case h2 => (rfl)))
  | ((with_reducible refine' e_op ?_))
  | ((with_reducible refine' e_un ?_))
  | ((with_reducible refine' e_neg ?_))
  | ((with_reducible refine' e_nil ?_))
  | ((with_reducible refine' e_cons ?_))
  | ((with_reducible refine' e_tup ?_))
  | ((with_reducible refine' e_lst ?_))
  | ((with_reducible refine' e_cb ?_))
  | ((with_reducible refine' e_call ?_))
  | ((with_reducible refine' e_ret ?_))
  | ((with_reducible refine' e_retN ?_))
  | ((with_reducible refine' e_drop ?_))
  | ((with_reducible refine' e_next ?_))
  | ((with_reducible refine' e_break ?_))
  | ((with_reducible refine' e_cont ?_))
  | ((with_reducible refine' e_ifS ?_))
  | ((with_reducible refine' e_test ?_))
  | ((with_reducible refine' e_bl ?_))
  | ((with_reducible refine' e_notT ?_))
  | ((with_reducible refine' e_andT ?_))
  | ((with_reducible refine' e_orT ?_))
  | ((with_reducible refine' e_andV ?_))
  | ((with_reducible refine' e_orV ?_))
  | ((with_reducible refine' e_notV ?_))
  | ((with_reducible refine' e_chain ?_))
  | ((with_reducible refine' e_ifE ?_))
  | ((with_reducible refine' e_par ?_))
  | ((with_reducible refine' e_par2 ?_))
  | ((with_reducible refine' e_par3 ?_))
  | ((with_reducible refine' e_par33 ?_))
  | ((with_reducible refine' e_gseqT ?h1 ?_); (case h1 => (rfl)))
  | ((with_reducible refine' e_gseqL ?h1 ?_); (case h1 => (rfl)))
  | ((with_reducible refine' e_gcons ?_))
  | ((with_reducible refine' e_gnil ?_))
  | ((with_reducible refine' e_addI ?_))
  | ((with_reducible refine' e_addL ?h1 ?h2 ?h3 ?_); (case h1 => (rfl)); (case h2 => (rfl)); (case h3 => (walk_at "dr")))
  | ((with_reducible refine' e_addT ?h3 ?_); (case h3 => (walk_at "dr")))
  | ((with_reducible refine' e_sub ?_))
  | ((with_reducible refine' e_lt ?_))
  | ((with_reducible refine' e_le ?_))
  | ((with_reducible refine' e_gt ?_))
  | ((with_reducible refine' e_ge ?_))
  | ((with_reducible refine' e_eqI ?_))
  | ((with_reducible refine' e_neI ?_))
  | ((with_reducible refine' e_eqS ?_))
  | ((with_reducible refine' e_neS ?_))
  | ((with_reducible refine' e_isN ?_))
  | ((with_reducible refine' e_notN ?_))
  | ((with_reducible refine' e_mod ?h1 ?_); (case h1 => (walk_at "dr")))
  | ((with_reducible refine' e_pow ?h1 ?_); (case h1 => (exact ⟨by decide, by decide, by decide⟩)))
  | ((with_reducible refine' e_mulL ?h1 ?h2 ?_); (case h1 => (rfl)); (case h2 => (exact ⟨by decide, by decide, by walk_at "dr"⟩)))
  | ((with_reducible refine' e_ix ?h1 ?h2 ?_); (case h1 => (rfl)); (case h2 => (rfl)))
  | ((with_reducible refine' e_slT ?_))
  | ((with_reducible refine' e_part ?_))
  | ((with_reducible refine' e_part1 ?_))
  | ((with_reducible refine' e_nopart ?_))
  | ((with_reducible refine' e_cutL ?h1 ?_); (case h1 => (rfl)))
  | ((with_reducible refine' e_cutT ?_))
  | ((with_reducible refine' e_revL ?_))
  | ((with_reducible refine' e_rev2 ?_))
  | ((with_reducible refine' e_parOwn ?_))
  | ((with_reducible refine' e_abs ?_))
  | ((with_reducible refine' e_max2 ?_))
  | ((with_reducible refine' e_min2 ?_))
  | ((with_reducible refine' e_int1 ?_))
  | ((with_reducible refine' e_intB ?_))
  | ((with_reducible refine' e_bits ?_))
  | ((with_reducible refine' e_bits1 ?_))
  | ((with_reducible refine' e_len ?h1 ?_); (case h1 => (rfl)))
  | ((with_reducible refine' e_isi (r := true) ?h1 ?h2 ?_); (case h1 => (rfl)); (case h2 => (decide +kernel)))
  | ((with_reducible refine' e_isi (r := false) ?h1 ?h2 ?_); (case h1 => (rfl)); (case h2 => (decide +kernel)))
  | ((with_reducible refine' e_listOf ?h1 ?_); (case h1 => (rfl)))
  | ((with_reducible refine' e_tupleOf ?h1 ?_); (case h1 => (rfl)))
  | ((with_reducible refine' e_gbox ?_))
  | ((with_reducible refine' e_for ?_))
  | ((with_reducible refine' e_itLs ?_))
  | ((with_reducible refine' e_itTs ?_))
  | ((with_reducible refine' e_itL ?_))
  | ((with_reducible refine' e_itT ?_))
  | ((with_reducible refine' e_rng1 ?_))
  | ((with_reducible refine' e_rng2 ?_))
  | ((with_reducible refine' e_rng1b ?h1 ?_); (case h1 => (exact ⟨by omega, by omega⟩)))
  | ((with_reducible refine' e_rng2b ?h1 ?_); (case h1 => (exact ⟨by omega, by omega, by omega, by omega⟩)))
  | ((with_reducible refine' e_rngW ?_))
  | ((with_reducible refine' e_rngC ?_))
  | ((with_reducible refine' e_own4 ?_))
  | ((with_reducible refine' e_own4b ?_))
  | ((with_reducible refine' e_rngWb ?_))
  | ((with_reducible refine' e_lc ?_))
  | ((with_reducible refine' e_own ?_))
  | ((with_reducible refine' e_ownLc ?h1 ?_); (case h1 => ((simp (config := {decide := true}) only [List.length_cons, List.length_nil, List.length_set]))))
  | ((with_reducible refine' e_yes ?_))
  | ((with_reducible refine' e_gcd ?_))
  | ((with_reducible refine' e_dmB ?h1 ?_); (case h1 => (assumption)))
  | ((with_reducible refine' e_frzA1 ?h1 ?_); (case h1 => (rfl)))
  | ((with_reducible refine' e_frzA2 ?h1 ?_); (case h1 => (rfl)))
  | ((with_reducible refine' e_isB ?_))
  | ((with_reducible refine' e_notB ?_))
  | ((with_reducible refine' e_in ?h1 ?h2 ?h3 ?_); (case h1 => (rfl)); (case h2 => (rfl)); (case h3 => (rfl)))
  | ((with_reducible refine' e_notIn ?h1 ?h2 ?h3 ?_); (case h1 => (rfl)); (case h2 => (rfl)); (case h3 => (rfl)))
  | ((with_reducible refine' e_revRg ?_))
  | ((with_reducible refine' e_revRg1 ?h1 ?_); (case h1 => (exact ⟨by omega, by omega⟩)))
  | ((with_reducible refine' e_ownAdd ?_))
  | ((with_reducible refine' e_ownAdd2 ?h1 ?h2 ?h3 ?_); (case h1 => (rfl)); (case h2 => (rfl)); (case h3 => (walk_at "dr")))
  | ((with_reducible refine' e_ext ?h1 ?_); (case h1 => (rfl)))
  | ((with_reducible refine' e_lstRg ?_))
  | ((with_reducible refine' e_zip ?_))
  | ((with_reducible refine' e_zip1 ?_))
  | ((with_reducible refine' e_app ?h1 ?_); (case h1 => (rfl)))
  | ((with_reducible refine' e_frz ?h1 ?_); (case h1 => (rfl)))
  | ((with_reducible refine' e_and (p := _ ≤ sizeLine) ?h1 ?_); (case h1 => (walk_at "dr")))
  | ((with_reducible refine' e_and (p := _ < sizeLine) ?h1 ?_); (case h1 => (walk_at "dr")))
  | ((with_reducible refine' e_ifT ?h1 ?_); (case h1 => (first | rfl | exact decide_eq_true (by omega) | exact congrArg not (decide_eq_false (by omega)))))
  | ((with_reducible refine' e_ifF ?h1 ?_); (case h1 => (first | rfl | exact decide_eq_false (by omega) | exact congrArg not (decide_eq_true (by omega))))))
local macro_rules | `(tactic| walk_at "d") => `(tactic| repeat walk_at "d1")
theorem two_pow_s (k : Nat) : (2 : Nat) ^ (k + 1) = 2 ^ k + 2 ^ k := by rw [Nat.pow_succ]; omega
theorem mem2 {x a b : D} (h : x ∈ [a, b]) : x = a ∨ x = b := by simpa using h
theorem mem3 {x a b c : D} (h : x ∈ [a, b, c]) : x = a ∨ x = b ∨ x = c := by simpa using h
theorem mem6 {x a b c d e f : D} (h : x ∈ [a, b, c, d, e, f]) : x = a ∨ x = b ∨ x = c ∨ x = d ∨ x = e ∨ x = f := by simpa using h
abbrev Bd (k : Nat) (i : Int) : Prop := i.natAbs < 2 ^ k
theorem bd_up {i : Int} {k l : Nat} (h : Bd k i) (hk : k ≤ l) : Bd l i := Nat.lt_of_lt_of_le h (Nat.pow_le_pow_right (by decide) hk)
theorem bd_mul {x y : Int} {i j : Nat} (h : Bd i x) (h' : Bd j y) : Bd (i + j) (x * y) := wide_lt h h'
theorem bd_add {x y : Int} {k : Nat} (h : Bd k x) (h' : Bd k y) : Bd (k + 1) (x + y) := by
  have e := two_pow_s k
  have h : x.natAbs < 2 ^ k := h
  have h' : y.natAbs < 2 ^ k := h'
  show (x + y).natAbs < 2 ^ (k + 1)
  omega
theorem bd_neg {x : Int} {k : Nat} (h : Bd k x) : Bd k (-x) := by
  show (-x).natAbs < 2 ^ k
  rw [Int.natAbs_neg]; exact h
theorem bd_sub {x y : Int} {k : Nat} (h : Bd k x) (h' : Bd k y) : Bd (k + 1) (x - y) := by rw [Int.sub_eq_add_neg]; exact bd_add h (bd_neg h')
theorem bd_div {x c : Int} {k : Nat} (h : Bd k x) : Bd k (x / c) := Nat.lt_of_le_of_lt (Int.natAbs_ediv_le_natAbs x c) h
theorem bd_mod {x c : Int} {k : Nat} (c0 : 0 < c) (h : Bd k c) : Bd k (x % c) := by
  have h1 := Int.emod_nonneg x (show c ≠ 0 by omega)
  have h2 := Int.emod_lt_of_pos x c0
  have h : c.natAbs < 2 ^ k := h
  show (x % c).natAbs < 2 ^ k
  omega
theorem bd_le {x y : Int} {k : Nat} (h0 : 0 ≤ x) (h1 : x ≤ y) (h : Bd k y) : Bd k x := by
  have h : y.natAbs < 2 ^ k := h
  show x.natAbs < 2 ^ k
  omega
theorem bd_small {x : Int} (k : Nat) (h : x.natAbs < 2 ^ k) : Bd k x := h
theorem mul_ok {x y : Int} {i j : Nat} (h : Bd i x) (h' : Bd j y) (hk : i + j ≤ 134217728 := by omega) : CMulX x y := mulx_ok h h' hk
theorem div_ok {x c : Int} {k : Nat} (c0 : 0 < c) (h : Bd k c) (h0 : 0 < k := by omega) (hk : k ≤ 9000 := by omega) : CDivW x c := wide_div c0 h h0 hk
/-! ### the deck -/
-- _law_deck: slots 0=_law_script 1=_law_cell; level 1; calls 
def t_L_deck : DTS :=
  dRet (dLst (dCons (dLc (dItL (dSl (dVar 0) (dNoPart) (dPart (dC (.int 63))))) (dgName 1) (dYes) (dCB dAbs (dCons (dVar 1) (dNil))) [1]) (dCons (dC (.int 0)) (dNil))))
theorem cnt_L_deck : ∀ ds μ Gd, F_L_deck ds μ Gd → ds.length = 1 := by
  rintro ds μ Gd ⟨ns, rfl, _⟩; rfl
theorem ok_L_deck : ∀ ds μ Gd, F_L_deck ds μ Gd → t_L_deck { nx := fun _ μ' => Gd .non μ', rt := Gd } (startD 2 ds) μ := by
  rintro ds μ Gd ⟨ns, rfl, hl, rfl, q⟩
  show t_L_deck _ [some (scr ns), none] _
  unfold t_L_deck
  walk_at "d"
  have e : cutD (ns.map D.int) none (some 63) = ns.map D.int := by
    unfold cutD
    rw [HT.sIx_none, show HT.sIx (ns.map D.int).length (ns.map D.int).length (some 63) = min 63 (ns.map D.int).length from HT.sIx_nat _ _ 63, List.drop_zero, Nat.sub_zero, List.take_of_length_le]
    rw [List.length_map]; omega
  rw [e]
  refine lc_map (fun d => match d with | .int i => .int (iabs i) | d => d) (by rw [List.length_map, sizeLine_eq]; omega) (fun x K hx hK => ?_) ?_
  · obtain ⟨i, hi, rfl⟩ := List.mem_map.mp hx
    walk_at "d"
    exact hK
  · walk_at "d"
    rw [List.map_map]
    rw [List.map_map] at q
    exact q
def DK (N : Int) (μ : Mem) : Prop := ∃ (cs : List Int) (n : Int), μ = [[.box 1, .int n], cs.map D.int] ∧ cs.length ≤ 63 ∧ 0 ≤ n ∧ n ≤ N ∧ ∀ c ∈ cs, 0 ≤ c
theorem DK.mono {N M : Int} {μ : Mem} (h : DK N μ) (hl : N ≤ M) : DK M μ := by
  obtain ⟨cs, n, e, h1, h2, h3, h4⟩ := h
  exact ⟨cs, n, e, h1, h2, by omega, h4⟩
theorem dk_new (ns : List Int) (hl : ns.length ≤ 63) : DK 0 [[.box 1, .int 0], (ns.map iabs).map D.int] := by
  refine ⟨ns.map iabs, 0, rfl, by rw [List.length_map]; exact hl, by omega, by omega, fun c hc => ?_⟩
  obtain ⟨i, _, rfl⟩ := List.mem_map.mp hc
  unfold iabs
  split <;> omega
theorem atI_mem {l : List D} {r : Int} (h0 : 0 ≤ r) (h1 : r < l.length) : ∃ d, atI l r = some d ∧ d ∈ l := by
  obtain ⟨k, rfl⟩ : ∃ k : Nat, r = k := ⟨r.toNat, by omega⟩
  have hk : k < l.length := by omega
  exact ⟨l[k], atI_nat (List.getElem?_eq_getElem hk), List.getElem_mem _⟩
-- _law_draw: slots 0=_law_deck_here 1=_law_many 2=_law_cell 3=_law_place_here 4=_law_mixed; level 1; calls 
def t_L_draw : DTS :=
  dSeq (dAsg (dOp dAdd (dOp dIx (dVar 0) (dC (.int 1))) (dC (.int 1))) (dgBox (dVar 0) (dC (.int 1)))) (dSeq (dAsg (dTup (dCons (dC (.int 0)) (dCons (dUn dNeg (dC (.int 1))) (dNil)))) (dgSeq 2 (dgCons (dgName 2) (dgCons (dgName 3) (dgNil))))) (dSeq (dIfS (dTest (dOp dGt (dCB dLen (dCons (dOp dIx (dVar 0) (dC (.int 0))) (dNil))) (dC (.int 0)))) (dSeq (dAsg (dOp dMod (dCB dInt1 (dCons (dOp dIx (dVar 0) (dC (.int 1))) (dNil))) (dCB dLen (dCons (dOp dIx (dVar 0) (dC (.int 0))) (dNil)))) (dgName 3)) (dAsg (dOp dIx (dOp dIx (dVar 0) (dC (.int 0))) (dVar 3)) (dgName 2))) (dNext)) (dSeq (dIfS (dTest (dOp dGe (dVar 2) (dOp dPow (dC (.int 10)) (dC (.int 18))))) (dSeq (dAsg (dOp dFdiv (dCB dInt1 (dCons (dVar 2) (dNil))) (dVar 1)) (dgBox (dOp dIx (dVar 0) (dC (.int 0))) (dVar 3))) (dRet (dOp dMod (dCB dInt1 (dCons (dVar 2) (dNil))) (dVar 1)))) (dNext)) (dSeq (dAsg (dOp dAdd (dOp dAdd (dOp dMod (dCB dInt1 (dCons (dVar 2) (dNil))) (dC (.int 2147483587))) (dOp dMul (dC (.int 7919)) (dOp dIx (dVar 0) (dC (.int 1))))) (dC (.int 1))) (dgName 4)) (dRet (dOp dMod (dCB dInt1 (dCons (dOp dMod (dCB dInt1 (dCons (dOp dPow (dVar 4) (dC (.int 5))) (dNil))) (dC (.int 2147483647))) (dNil))) (dVar 1)))))))
def F_L_draw : DSp := fun ds μ Gd => ∃ many N : Int, ds = [.box 0, .int many] ∧ 0 < many ∧ Bd 300 many ∧ DK N μ ∧ N < 1000000000000 ∧ ∀ r μ', 0 ≤ r → r < many → DK (N + 1) μ' → Gd (.int r) μ'
theorem cnt_L_draw : ∀ ds μ Gd, F_L_draw ds μ Gd → ds.length = 2 := by
  rintro ds μ Gd ⟨m, N, rfl, _⟩; rfl
theorem ok_L_draw : ∀ ds μ Gd, F_L_draw ds μ Gd → t_L_draw { nx := fun _ μ' => Gd .non μ', rt := Gd } (startD 5 ds) μ := by
  rintro ds μ Gd ⟨many, N, rfl, hm0, hm1, ⟨cs, n, rfl, hl, hn0, hn1, hc⟩, hN, q⟩
  show t_L_draw _ [some (.box 0), some (.int many), none, none, none] _
  unfold t_L_draw
  have hlen : (List.map D.int cs).length = cs.length := List.length_map _
  walk_at "d"
  refine ⟨0, _, 1, 1, rfl, rfl, rfl, rfl, ?_⟩
  walk_at "d"
  refine e_if (fun hpos => ?_) (fun hneg => ?_)
  · have hpos' : (0 : Int) < cs.length := by rw [hlen] at hpos; omega
    walk_at "d"
    rw [hlen]
    have p0 := Int.emod_nonneg (n + 1) (show (cs.length : Int) ≠ 0 by omega)
    have p1 := Int.emod_lt_of_pos (n + 1) hpos'
    generalize (n + 1) % (cs.length : Int) = P at *
    obtain ⟨d, e1, hd⟩ := atI_mem (l := cs.map D.int) p0 (by rw [hlen]; exact p1)
    obtain ⟨c, hcc, rfl⟩ := List.mem_map.mp hd
    refine e_ix rfl e1 ?_
    walk_at "d"
    have hc0 : 0 ≤ c := hc c hcc
    refine e_if (fun h => ?_) (fun h => ?_)
    · walk_at "d"
      refine e_fdiv ⟨hm0, ?_⟩ ?_
      · exact (Nat.log2_lt (by omega)).mpr (Nat.lt_of_lt_of_le hm1 (Nat.pow_le_pow_right (by decide) (by decide : 300 ≤ 9000)))
      walk_at "d"
      refine ⟨1, _, P, P.toNat, rfl, rfl, rfl, ?_, ?_⟩
      · unfold ixN
        rw [if_pos p0, hlen, if_pos p1]
      walk_at "d"
      refine q _ _ (Int.emod_nonneg _ (by omega)) (Int.emod_lt_of_pos _ hm0) ⟨cs.set P.toNat (c / many), n + 1, ?_, by rw [List.length_set]; exact hl, by omega, by omega, fun z hz => ?_⟩
      · show [[D.box 1, D.int (n + 1)], (cs.map D.int).set P.toNat (D.int (c / many))] = _
        rw [List.map_set]
      · rcases List.mem_or_eq_of_mem_set hz with z | rfl
        · exact hc _ z
        · exact Int.ediv_nonneg hc0 (by omega)
    · walk_at "d"
      have h1 := Int.emod_nonneg c (show (2147483587 : Int) ≠ 0 by decide)
      have h2 := Int.emod_lt_of_pos c (show (0 : Int) < 2147483587 by decide)
      refine e_mulI (mulx_ok (a := 13) (b := 41) (by decide) (by omega) (by decide)) ?_
      walk_at "d"
      refine e_pow ⟨by decide, by decide, by omega⟩ ?_
      walk_at "d"
      exact q _ _ (Int.emod_nonneg _ (by omega)) (Int.emod_lt_of_pos _ hm0) ⟨cs, n + 1, rfl, hl, by omega, by omega, hc⟩
  · walk_at "d"
    refine e_mulI (mulx_ok (a := 13) (b := 41) (by decide) (by omega) (by decide)) ?_
    walk_at "d"
    refine e_pow ⟨by decide, by decide, by omega⟩ ?_
    walk_at "d"
    exact q _ _ (Int.emod_nonneg _ (by omega)) (Int.emod_lt_of_pos _ hm0) ⟨cs, n + 1, rfl, hl, by omega, by omega, hc⟩
theorem pow_le2 {a b : Nat} (h : a ≤ b) : (2 : Int) ^ a ≤ 2 ^ b := by
  have := Nat.pow_le_pow_right (show 2 > 0 by decide) h
  have e : ∀ k : Nat, ((2 ^ k : Nat) : Int) = 2 ^ k := fun k => by rw [Int.natCast_pow]; rfl
  rw [← e, ← e]; omega
theorem two_lt {a b : Nat} (h : (2 : Int) ^ a < 2 ^ b) : a < b := by
  refine Nat.not_le.mp fun z => ?_
  have := Nat.pow_le_pow_right (show 2 > 0 by decide) z
  have e : ∀ k : Nat, ((2 ^ k : Nat) : Int) = 2 ^ k := fun k => by rw [Int.natCast_pow]; rfl
  rw [← e, ← e] at h; omega
theorem two_up (x : Int) (t : Nat) : 2 * (x * 2 ^ t) = x * 2 ^ (t + 1) := by rw [Int.pow_succ, ← Int.mul_assoc x, Int.mul_comm 2]
theorem two_pos (a : Nat) : (0 : Int) < 2 ^ a := Int.pow_pos (by decide)
theorem of_bd {x : Int} {k : Nat} (h : Bd k x) : x < 2 ^ k := by
  have e : ((2 ^ k : Nat) : Int) = 2 ^ k := by rw [Int.natCast_pow]; rfl
  have h : x.natAbs < 2 ^ k := h
  omega
theorem to_bd {x : Int} {k : Nat} (h0 : 0 ≤ x) (h : x < 2 ^ k) : Bd k x := by
  have e : ((2 ^ k : Nat) : Int) = 2 ^ k := by rw [Int.natCast_pow]; rfl
  show x.natAbs < 2 ^ k
  omega
/-! ### powers of ten and of two -/
theorem pow10_bd (k : Nat) : Bd (4 * k + 1) ((10 : Int) ^ k) := by
  show ((10 : Int) ^ k).natAbs < 2 ^ (4 * k + 1)
  rw [Int.natAbs_pow]
  refine Nat.lt_of_le_of_lt (Nat.pow_le_pow_left (show (10 : Int).natAbs ≤ 2 ^ 4 by decide) k) ?_
  rw [← Nat.pow_mul]
  exact Nat.pow_lt_pow_right (by decide) (by omega)
theorem pow10_pos (k : Nat) : (0 : Int) < 10 ^ k := Int.pow_pos (by decide)
theorem bd_pow {k n : Nat} (h : k < n) : Bd n ((2 : Int) ^ k) := by
  show ((2 : Int) ^ k).natAbs < 2 ^ n
  rw [Int.natAbs_pow]
  exact Nat.pow_lt_pow_right (by decide) h
theorem e_shlN {i j : Int} {n : Nat} {μ : Mem} {Q : D → Mem → Prop} (k : Nat) (hj : j = k) (h : Bd n i) (hn : n + k ≤ 134217728) (q : Q (.int (i * 2 ^ k)) μ) : dShl (.int i) (.int j) μ Q := by
  subst hj
  exact e_shl (shl_ok h hn) q
theorem e_shrN {i j : Int} {μ : Mem} {Q : D → Mem → Prop} (k : Nat) (hj : j = k) (q : Q (.int (i / 2 ^ k)) μ) : dShr (.int i) (.int j) μ Q := by
  subst hj
  exact e_shr (Int.natCast_nonneg _) q
theorem e_andI {i j : Int} {μ : Mem} {Q : D → Mem → Prop} (h : Q (.int (Builtin.bitAnd i j)) μ) : dAnd (.int i) (.int j) μ Q := ⟨i, j, rfl, rfl, h⟩
def F_L_ten : DSp := fun ds μ Gd => ∃ k : Int, ds = [.int k] ∧ -10000 ≤ k ∧ k ≤ 10000 ∧ Gd (.int (10 ^ k.toNat)) μ
-- _law_ten: slots 0=_law_power 1=_law_found 2=_law_time; level 1; calls 
def t_L_ten : DTS :=
  dSeq (dAsg (dC (.int 1)) (dgName 1)) (dSeq (dFor (dRng1 (dCons (dVar 0) (dNil))) (dgName 2) (dAsg (dOp dMul (dVar 1) (dC (.int 10))) (dgName 1))) (dRet (dVar 1)))
theorem cnt_L_ten : ∀ ds μ Gd, F_L_ten ds μ Gd → ds.length = 1 := by
  rintro ds μ Gd ⟨i, rfl, _⟩; rfl
theorem ok_L_ten : ∀ ds μ Gd, F_L_ten ds μ Gd → t_L_ten { nx := fun _ μ' => Gd .non μ', rt := Gd } (startD 3 ds) μ := by
  rintro ds μ Gd ⟨k, rfl, k0, k1, q⟩
  show t_L_ten _ [some (.int k), none, none] _
  unfold t_L_ten
  walk_at "d"
  refine loop_inv (fun i σ μ' => ∃ z, σ = [some (.int k), some (.int (10 ^ i)), z] ∧ μ' = μ) _ 0 _ μ ⟨none, rfl, rfl⟩ ?_ ?_
  · rintro i x σ μ' K e ⟨z, rfl, rfl⟩ hK
    have hi := (List.getElem?_eq_some_iff.mp e).1
    rw [rngD_len] at hi
    rw [Nat.zero_add] at hK ⊢
    walk_at "d"
    refine e_mulI (mul_ok (pow10_bd i) (j := 4) (by decide) (by omega)) ?_
    walk_at "d"
    rw [show (10 : Int) ^ i * 10 = 10 ^ (i + 1) from (Int.pow_succ ..).symm]
    exact hK _ _ ⟨_, rfl, rfl⟩
  · rintro σ μ' ⟨z, rfl, rfl⟩
    rw [Nat.zero_add, rngD_len]
    walk_at "d"
    exact q
/-! ### the program's powers and shifts -/
theorem pow_bd {b : Int} (k : Nat) (h : b.natAbs ≤ 16) : Bd (4 * k + 1) (b ^ k) := by
  show (b ^ k).natAbs < 2 ^ (4 * k + 1)
  rw [Int.natAbs_pow]
  refine Nat.lt_of_le_of_lt (Nat.pow_le_pow_left (show b.natAbs ≤ 2 ^ 4 from h) k) ?_
  rw [← Nat.pow_mul]
  exact Nat.pow_lt_pow_right (by decide) (by omega)
theorem half_bit (k i : Nat) : k / 2 ^ i = 2 * (k / 2 ^ (i + 1)) + k / 2 ^ i % 2 := by
  rw [Nat.pow_succ, ← Nat.div_div_eq_div_mul]
  generalize k / 2 ^ i = a
  omega
def F_raised : DSp := fun ds μ Gd => ∃ (b : Int) (k : Nat), ds = [.int b, .int k] ∧ k ≤ 10000 ∧ b.natAbs ≤ 16 ∧ Gd (.int (b ^ k)) μ
-- raised: slots 0=base 1=exponent 2=result 3=place; level 1; calls 
def t_raised : DTS :=
  dSeq (dAsg (dC (.int 1)) (dgName 2)) (dSeq (dFor (dRevRg (dBits (dVar 1))) (dgName 3) (dSeq (dAsg (dOp dMul (dVar 2) (dVar 2)) (dgName 2)) (dIfS (dTest (dOp dEq (dOp dAnd (dOp dShr (dVar 1) (dVar 3)) (dC (.int 1))) (dC (.int 1)))) (dAsg (dOp dMul (dVar 2) (dVar 0)) (dgName 2)) (dNext)))) (dRet (dVar 2)))
theorem cnt_raised : ∀ ds μ Gd, F_raised ds μ Gd → ds.length = 2 := by
  rintro ds μ Gd ⟨i, k, rfl, _⟩; rfl
theorem rev_rng {n i : Nat} {x : D} (e : (rngD 0 n).reverse[i]? = some x) : i < n ∧ x = .int ((n - 1 - i : Nat) : Int) := by
  have hi := (List.getElem?_eq_some_iff.mp e).1
  rw [List.length_reverse, rngD_len] at hi
  rw [List.getElem?_reverse (by rw [rngD_len]; exact hi), rngD_len] at e
  unfold rngD at e
  rw [List.getElem?_map, List.getElem?_range (by omega)] at e
  cases e
  exact ⟨hi, congrArg D.int (Int.zero_add _)⟩
theorem ok_raised : ∀ ds μ Gd, F_raised ds μ Gd → t_raised { nx := fun _ μ' => Gd .non μ', rt := Gd } (startD 4 ds) μ := by
  rintro ds μ Gd ⟨b, k, rfl, k1, hb, q⟩
  show t_raised _ [some (.int b), some (.int k), none, none] _
  unfold t_raised
  have hbits : Builtin.Int.intBits (k : Int) ≤ 14 := PyProof.Rows.intBits_le (by show (k : Int).natAbs < 2 ^ 14; omega)
  have hk : k < 2 ^ Builtin.Int.intBits (k : Int) := by
    have := PyProof.Rows.natAbs_lt_pow_bits (k : Int)
    rwa [Int.natAbs_natCast] at this
  walk_at "d"
  refine ⟨⟨by omega, by omega⟩, ?_⟩
  rw [Int.toNat_natCast]
  generalize Builtin.Int.intBits (k : Int) = n at *
  refine loop_inv (fun i σ μ' => i ≤ n ∧ ∃ z, σ = [some (.int b), some (.int k), some (.int (b ^ (k / 2 ^ (n - i)))), z] ∧ μ' = μ) _ 0 _ μ ⟨Nat.zero_le _, none, ?_, rfl⟩ ?_ ?_
  · rw [Nat.sub_zero, Nat.div_eq_of_lt hk, Int.pow_zero]; rfl
  · rintro i x σ μ' K e ⟨hi0, z, rfl, rfl⟩ hK
    obtain ⟨hi, rfl⟩ := rev_rng e
    rw [Nat.zero_add] at hK ⊢
    have hpos : n - i = n - 1 - i + 1 := by omega
    rw [hpos]
    have hh := half_bit k (n - 1 - i)
    have hle : k / 2 ^ (n - 1 - i + 1) ≤ k := Nat.div_le_self _ _
    walk_at "d"
    refine e_mulI (mul_ok (pow_bd _ hb) (pow_bd _ hb) (by omega)) ?_
    walk_at "d"
    rw [← Int.pow_add, ← Nat.two_mul]
    refine e_shrN (n - 1 - i) rfl ?_
    refine e_andI ?_
    rw [PyProof.Rows.bitAnd_m1]
    have ek : ((k : Int) / 2 ^ (n - 1 - i)) % 2 = ((k / 2 ^ (n - 1 - i) % 2 : Nat) : Int) := by
      push_cast; rfl
    rw [ek]
    walk_at "d"
    refine e_if (fun h1 => ?_) (fun h1 => ?_)
    · walk_at "d"
      refine e_mulI (mul_ok (pow_bd _ hb) (j := 5) (Nat.lt_of_le_of_lt hb (by decide)) (by omega)) ?_
      walk_at "d"
      rw [← Int.pow_succ, show (2 * (k / 2 ^ (n - 1 - i + 1))).succ = k / 2 ^ (n - (i + 1)) by rw [show n - (i + 1) = n - 1 - i by omega]; omega]
      exact hK _ _ ⟨by omega, _, rfl, rfl⟩
    · walk_at "d"
      rw [show 2 * (k / 2 ^ (n - 1 - i + 1)) = k / 2 ^ (n - (i + 1)) by rw [show n - (i + 1) = n - 1 - i by omega]; omega]
      exact hK _ _ ⟨by omega, _, rfl, rfl⟩
  · rintro σ μ' ⟨hi0, z, rfl, rfl⟩
    rw [Nat.zero_add, List.length_reverse, rngD_len, Nat.sub_self, Nat.pow_zero, Nat.div_one]
    walk_at "d"
    exact q
def F_shifted : DSp := fun ds μ Gd => ∃ n s : Int, ds = [.int n, .int s] ∧ Bd 100000 n ∧ -50000 ≤ s ∧ s ≤ 50000 ∧ Gd (.tup [.int (n * 2 ^ s.toNat), .int (2 ^ (-s).toNat)]) μ
-- shifted: slots 0=n 1=shift; level 1; calls 
def t_shifted : DTS :=
  dSeq (dIfS (dTest (dOp dLt (dVar 1) (dC (.int 0)))) (dRet (dTup (dCons (dVar 0) (dCons (dOp dShl (dC (.int 1)) (dUn dNeg (dVar 1))) (dNil))))) (dNext)) (dRet (dTup (dCons (dOp dShl (dVar 0) (dVar 1)) (dCons (dC (.int 1)) (dNil)))))
theorem cnt_shifted : ∀ ds μ Gd, F_shifted ds μ Gd → ds.length = 2 := by
  rintro ds μ Gd ⟨i, k, rfl, _⟩; rfl
theorem ok_shifted : ∀ ds μ Gd, F_shifted ds μ Gd → t_shifted { nx := fun _ μ' => Gd .non μ', rt := Gd } (startD 2 ds) μ := by
  rintro ds μ Gd ⟨n, s, rfl, bn, s0, s1, q⟩
  show t_shifted _ [some (.int n), some (.int s)] _
  unfold t_shifted
  walk_at "d"
  refine e_if (fun h => ?_) (fun h => ?_)
  · walk_at "d"
    refine e_shlN (n := 2) (-s).toNat (by omega) (bd_small 2 (by decide)) (by omega) ?_
    rw [Int.one_mul]
    walk_at "d"
    rw [show s.toNat = 0 by omega, Int.pow_zero, Int.mul_one] at q
    exact q
  · walk_at "d"
    refine e_shlN s.toNat (by omega) bn (by omega) ?_
    walk_at "d"
    rw [show (-s).toNat = 0 by omega, Int.pow_zero] at q
    exact q
/-! ### formats and codes -/
theorem pow_le {a b : Nat} (h : a ≤ b) : (2 : Int) ^ a ≤ 2 ^ b := by
  have := Nat.pow_le_pow_right (show 2 > 0 by decide) h
  have e : ∀ k : Nat, ((2 ^ k : Nat) : Int) = 2 ^ k := fun k => by rw [Int.natCast_pow]; rfl
  rw [← e, ← e]; omega
theorem pow_pos' (a : Nat) : (0 : Int) < 2 ^ a := by
  have : (2 : Nat) ^ a > 0 := Nat.pow_pos (by decide)
  have e : ((2 ^ a : Nat) : Int) = 2 ^ a := by rw [Int.natCast_pow]; rfl
  omega
theorem bits_up {M : Int} {k : Nat} (h0 : 0 ≤ M) (h : M < 2 ^ k) : Builtin.Int.intBits M ≤ k := PyProof.Rows.intBits_le (by
  have e : ((2 ^ k : Nat) : Int) = 2 ^ k := by rw [Int.natCast_pow]; rfl
  omega)
theorem bits_lo {M : Int} {k : Nat} (h : 2 ^ k ≤ M) : k < Builtin.Int.intBits M := by
  refine Nat.not_le.mp fun z => ?_
  have h1 := PyProof.Rows.natAbs_lt_pow_bits M
  have h2 : (2 : Nat) ^ Builtin.Int.intBits M ≤ 2 ^ k := Nat.pow_le_pow_right (by decide) z
  have e : ((2 ^ k : Nat) : Int) = 2 ^ k := by rw [Int.natCast_pow]; rfl
  have := pow_pos' k
  omega
def fxp (P : Nat) (lo m e : Int) : Int := if e + (Builtin.Int.intBits m : Nat) - (P + 1) > lo then e + (Builtin.Int.intBits m : Nat) - (P + 1) else lo
def optD : Option Int → D
  | none => .non
  | some i => .int i
def codeF (P : Nat) (lo hi m e : Int) : Option Int :=
  if m = 0 then some 0 else if fxp P lo m e > hi then none
  else if e ≥ fxp P lo m e then some ((fxp P lo m e - lo) * 2 ^ P + m * 2 ^ (e - fxp P lo m e).toNat)
  else if m / 2 ^ (fxp P lo m e - e).toNat * 2 ^ (fxp P lo m e - e).toNat ≠ m then none
  else some ((fxp P lo m e - lo) * 2 ^ P + m / 2 ^ (fxp P lo m e - e).toNat)
/-- m and e as a number of the format has them -/
def can (P : Nat) (lo hi M E : Int) : Prop := 0 ≤ M ∧ M < 2 ^ (P + 1) ∧ lo ≤ E ∧ E ≤ hi ∧ (2 ^ P ≤ M ∨ E = lo)
theorem fxp_eq {P : Nat} {lo hi M E : Int} {k : Nat} {x : Int} (c : can P lo hi M E) (x0 : 0 ≤ x) (x1 : x < 2 ^ k) : fxp P lo (M * 2 ^ k + x) (E - k) = E := by
  obtain ⟨m0, m1, l, h, c⟩ := c
  have up : Builtin.Int.intBits (M * 2 ^ k + x) ≤ P + 1 + k := by
    have p0 := Int.mul_nonneg m0 (Int.le_of_lt (pow_pos' k))
    refine bits_up (by omega) ?_
    have : (M + 1) * 2 ^ k ≤ 2 ^ (P + 1) * 2 ^ k := Int.mul_le_mul_of_nonneg_right (by omega) (Int.le_of_lt (pow_pos' k))
    rw [Int.add_mul, Int.one_mul, ← Int.pow_add] at this
    omega
  unfold fxp
  rcases c with c | c
  · have lw : P + k < Builtin.Int.intBits (M * 2 ^ k + x) := by
      refine bits_lo ?_
      have : (2 : Int) ^ P * 2 ^ k ≤ M * 2 ^ k := Int.mul_le_mul_of_nonneg_right c (Int.le_of_lt (pow_pos' k))
      rw [← Int.pow_add] at this
      omega
    split <;> omega
  · split <;> omega
theorem codeF_can {P : Nat} {lo hi M E : Int} (k : Nat) (c : can P lo hi M E) : codeF P lo hi (M * 2 ^ k) (E - k) = some (if M = 0 then 0 else (E - lo) * 2 ^ P + M) := by
  have hp := pow_pos' k
  unfold codeF
  by_cases z : M = 0
  · subst z; rw [Int.zero_mul, if_pos rfl, if_pos rfl]
  have hx := fxp_eq (k := k) (x := 0) c (Int.le_refl _) hp
  rw [Int.add_zero] at hx
  have nz : M * 2 ^ k ≠ 0 := Int.mul_ne_zero z (by omega)
  rw [if_neg nz, hx, if_neg z, if_neg (by have := c.2.2.2.1; omega)]
  by_cases k0 : k = 0
  · subst k0
    rw [if_pos (by show E - (0 : Nat) ≥ E; omega), show (E - ((0 : Nat) : Int) - E).toNat = 0 by omega, Int.pow_zero, Int.mul_one, Int.mul_one]
  · rw [if_neg (by omega), show (E - (E - (k : Int))).toNat = k by omega, Int.mul_ediv_cancel _ (by omega), if_neg (fun h => h rfl)]
theorem codeF_none {P : Nat} {lo hi M E x : Int} (k : Nat) (c : can P lo hi M E) (x0 : 0 < x) (x1 : x < 2 ^ k) : codeF P lo hi (M * 2 ^ k + x) (E - k) = none := by
  have hp := pow_pos' k
  have hx := fxp_eq (k := k) (x := x) c (by omega) x1
  have k0 : 0 < k := by
    rcases Nat.eq_zero_or_pos k with z | z
    · subst z
      have : (2 : Int) ^ 0 = 1 := rfl
      omega
    · exact z
  have m0 := Int.mul_nonneg c.1 (Int.le_of_lt hp)
  unfold codeF
  rw [if_neg (by omega), hx, if_neg (by have := c.2.2.2.1; omega), if_neg (by omega), show (E - (E - (k : Int))).toNat = k by omega]
  have hd : (M * 2 ^ k + x) / 2 ^ k = M := by
    rw [Int.add_comm, Int.add_mul_ediv_right _ _ (by omega), Int.ediv_eq_zero_of_lt (by omega) x1, Int.zero_add]
  rw [hd, if_pos (by omega)]
theorem codeF_up {P : Nat} {lo hi m E : Int} (k : Nat) (m0 : 0 < m) (c : can P lo hi (m * 2 ^ k) E) : codeF P lo hi m (E + k) = some ((E - lo) * 2 ^ P + m * 2 ^ k) := by
  have hp := pow_pos' k
  obtain ⟨c0, c1, l, h, c⟩ := c
  have hk : k < P + 1 := by
    refine Nat.not_le.mp fun z => ?_
    have h1 := pow_le z
    have h2 : 1 * 2 ^ k ≤ m * 2 ^ k := Int.mul_le_mul_of_nonneg_right (by omega) (Int.le_of_lt hp)
    omega
  have hx : fxp P lo m (E + k) = E := by
    have up : Builtin.Int.intBits m ≤ P + 1 - k := by
      refine bits_up (by omega) (Int.lt_of_mul_lt_mul_right (a := 2 ^ k) ?_ (Int.le_of_lt hp))
      rw [← Int.pow_add, show P + 1 - k + k = P + 1 by omega]
      exact c1
    unfold fxp
    rcases c with c | c
    · have lw : P - k < Builtin.Int.intBits m := by
        refine bits_lo (Int.le_of_mul_le_mul_right (a := 2 ^ k) ?_ hp)
        rw [← Int.pow_add, show P - k + k = P by omega]
        exact c
      split <;> omega
    · split <;> omega
  unfold codeF
  rw [if_neg (by omega), hx, if_neg (by omega), if_pos (by omega), show (E + (k : Int) - E).toNat = k by omega]
theorem codeF_far {P : Nat} {lo hi m : Int} (m0 : 0 < m) (hlh : lo ≤ hi) : codeF P lo hi m (hi + (P + 1)) = none := by
  have hb : 0 < Builtin.Int.intBits m := bits_lo (k := 0) (by show (1 : Int) ≤ m; omega)
  have hx : fxp P lo m (hi + (P + 1)) > hi := by unfold fxp; split <;> omega
  unfold codeF
  rw [if_neg (by omega), if_pos hx]
theorem codeF_top {P : Nat} {lo hi : Int} (hlh : lo ≤ hi) : codeF P lo hi (1 * 2 ^ (P + 1)) hi = none := by
  have hb : P + 1 < Builtin.Int.intBits (1 * 2 ^ (P + 1)) := bits_lo (by rw [Int.one_mul]; exact Int.le_refl _)
  have hx : fxp P lo (1 * 2 ^ (P + 1)) hi > hi := by unfold fxp; split <;> omega
  unfold codeF
  rw [if_neg (by have := pow_pos' (P + 1); omega), if_pos hx]
def countF (P : Nat) (lo hi : Int) : Int := (hi - lo + 2) * 2 ^ P
def partM (P : Nat) (code : Int) : Int := if code < 2 ^ (P + 1) then code else 2 ^ P + (code - 2 ^ (P + 1)) % 2 ^ P
def partE (P : Nat) (lo code : Int) : Int := if code < 2 ^ (P + 1) then lo else lo + 1 + (code - 2 ^ (P + 1)) / 2 ^ P
theorem pow_s (P : Nat) : (2 : Int) ^ (P + 1) = 2 * 2 ^ P := by rw [Int.pow_succ]; omega
theorem part_can {P : Nat} {lo hi code : Int} (hlh : lo ≤ hi) (h0 : 0 ≤ code) (h1 : code < countF P lo hi) : can P lo hi (partM P code) (partE P lo code) ∧ (partE P lo code - lo) * 2 ^ P + partM P code = code := by
  have hp := pow_pos' P
  have hs := pow_s P
  unfold partM partE can
  by_cases z : code < 2 ^ (P + 1)
  · rw [if_pos z, if_pos z]
    refine ⟨⟨h0, z, Int.le_refl _, hlh, .inr rfl⟩, ?_⟩
    rw [Int.sub_self, Int.zero_mul, Int.zero_add]
  · rw [if_neg z, if_neg z]
    have r0 := Int.emod_nonneg (code - 2 ^ (P + 1)) (show (2 : Int) ^ P ≠ 0 by omega)
    have r1 := Int.emod_lt_of_pos (code - 2 ^ (P + 1)) hp
    have d0 : 0 ≤ (code - 2 ^ (P + 1)) / 2 ^ P := Int.ediv_nonneg (by omega) (by omega)
    have d1 : (code - 2 ^ (P + 1)) / 2 ^ P < hi - lo := by
      refine Int.ediv_lt_of_lt_mul hp ?_
      have h1 : code < (hi - lo + 2) * 2 ^ P := h1
      rw [Int.add_mul] at h1
      omega
    have dm := Int.mul_ediv_add_emod (code - 2 ^ (P + 1)) (2 ^ P)
    refine ⟨⟨by omega, by omega, by omega, by omega, .inl (by omega)⟩, ?_⟩
    rw [show lo + 1 + (code - 2 ^ (P + 1)) / 2 ^ P - lo = 1 + (code - 2 ^ (P + 1)) / 2 ^ P by omega, Int.add_mul, Int.one_mul, Int.mul_comm _ ((2 : Int) ^ P)]
    omega
/-- the parts as the program finds them -/
theorem parts_prog {P : Nat} {lo code : Int} (h0 : 0 ≤ code) : code - (if 0 > code / 2 ^ P - 1 then 0 else code / 2 ^ P - 1) * 2 ^ P = partM P code ∧ lo + (if 0 > code / 2 ^ P - 1 then 0 else code / 2 ^ P - 1) = partE P lo code := by
  have hp := pow_pos' P
  have hs := pow_s P
  have dm := Int.mul_ediv_add_emod code (2 ^ P)
  have r0 := Int.emod_nonneg code (show (2 : Int) ^ P ≠ 0 by omega)
  have r1 := Int.emod_lt_of_pos code hp
  unfold partM partE
  by_cases z : code < 2 ^ (P + 1)
  · have q2 : code / 2 ^ P < 2 := Int.ediv_lt_of_lt_mul hp (by omega)
    have ab : (if 0 > code / 2 ^ P - 1 then 0 else code / 2 ^ P - 1) = 0 := by
      have := Int.ediv_nonneg h0 (Int.le_of_lt hp)
      split <;> omega
    rw [ab, if_pos z, if_pos z]
    exact ⟨by rw [Int.zero_mul]; omega, by omega⟩
  · have q2 : 2 ≤ code / 2 ^ P := (Int.le_ediv_iff_mul_le hp).mpr (by omega)
    have e2 : code - 2 ^ (P + 1) = code + 2 ^ P * (-2) := by omega
    rw [if_neg z, if_neg z, e2, Int.add_mul_emod_self_left, Int.add_mul_ediv_left _ _ (by omega), if_neg (by omega)]
    refine ⟨?_, by omega⟩
    rw [Int.sub_mul, Int.mul_comm (code / 2 ^ P)]
    omega
/-! ### the logarithm of a fraction, and cutting -/
def le2 (k num den : Int) : Prop := den * 2 ^ k.toNat ≤ num * 2 ^ (-k).toNat
instance (k num den : Int) : Decidable (le2 k num den) := inferInstanceAs (Decidable (_ ≤ _))
def logF (num den : Int) : Int :=
  if le2 ((Builtin.Int.intBits num : Nat) - (Builtin.Int.intBits den : Nat)) num den then (Builtin.Int.intBits num : Nat) - (Builtin.Int.intBits den : Nat) else (Builtin.Int.intBits num : Nat) - (Builtin.Int.intBits den : Nat) - 1
theorem pow_cancel {x y : Int} (a b c : Nat) : x * 2 ^ (a + c) ≤ y * 2 ^ (b + c) ↔ x * 2 ^ a ≤ y * 2 ^ b := by
  rw [Int.pow_add, Int.pow_add, ← Int.mul_assoc, ← Int.mul_assoc]
  exact ⟨fun h => Int.le_of_mul_le_mul_right h (two_pos c), fun h => Int.mul_le_mul_of_nonneg_right h (Int.le_of_lt (two_pos c))⟩
theorem le2_shift {k num den : Int} (t : Nat) (h : 0 ≤ k + t) : le2 k num den ↔ den * 2 ^ (k + t).toNat ≤ num * 2 ^ t := by
  unfold le2
  obtain ⟨c, hc⟩ : ∃ c : Nat, t = (-k).toNat + c := ⟨t - (-k).toNat, by omega⟩
  rw [show (k + t).toNat = k.toNat + c by omega, hc]
  exact (pow_cancel _ _ _).symm
theorem bits_le {x : Int} (h : 0 < x) : (2 : Int) ^ (Builtin.Int.intBits x - 1) ≤ x ∧ 0 < Builtin.Int.intBits x := by
  have e : ∀ k : Nat, ((2 ^ k : Nat) : Int) = 2 ^ k := fun k => by rw [Int.natCast_pow]; rfl
  have h0 : 0 < Builtin.Int.intBits x := Nat.pos_of_ne_zero fun z => by
    have := PyProof.Rows.natAbs_lt_pow_bits x
    rw [z, Nat.pow_zero] at this
    omega
  refine ⟨?_, h0⟩
  have : ¬ x.natAbs < 2 ^ (Builtin.Int.intBits x - 1) := fun w => by
    have := PyProof.Rows.intBits_le w
    omega
  rw [← e]; omega
theorem bits_gt (x : Int) : x < 2 ^ Builtin.Int.intBits x := by
  have e : ((2 ^ Builtin.Int.intBits x : Nat) : Int) = 2 ^ Builtin.Int.intBits x := by rw [Int.natCast_pow]; rfl
  have := PyProof.Rows.natAbs_lt_pow_bits x
  rw [← e]; omega
theorem logF_spec {num den : Int} (n0 : 0 < num) (d0 : 0 < den) : le2 (logF num den) num den ∧ ¬ le2 (logF num den + 1) num den := by
  obtain ⟨n1, nb⟩ := bits_le n0
  obtain ⟨d1, db⟩ := bits_le d0
  have n2 := bits_gt num
  have d2 := bits_gt den
  unfold logF
  generalize Builtin.Int.intBits num = bn at *
  generalize Builtin.Int.intBits den = bd at *
  have A : le2 ((bn : Int) - bd - 1) num den := by
    rw [le2_shift (bd + 1) (by omega), show ((bn : Int) - bd - 1 + ((bd + 1 : Nat) : Int)).toNat = bn by omega]
    have h1 : den * 2 ^ bn ≤ 2 ^ bd * 2 ^ bn := Int.mul_le_mul_of_nonneg_right (Int.le_of_lt d2) (Int.le_of_lt (two_pos bn))
    have h2 : (2 : Int) ^ (bn - 1) * 2 ^ (bd + 1) ≤ num * 2 ^ (bd + 1) := Int.mul_le_mul_of_nonneg_right n1 (Int.le_of_lt (two_pos _))
    rw [← Int.pow_add, show bn - 1 + (bd + 1) = bd + bn by omega, Int.pow_add] at h2
    omega
  have B : ¬ le2 ((bn : Int) - bd + 1) num den := by
    rw [le2_shift bd (by omega), show ((bn : Int) - bd + 1 + (bd : Int)).toNat = bn + 1 by omega]
    have h1 : num * 2 ^ bd < 2 ^ bn * 2 ^ bd := Int.mul_lt_mul_of_pos_right n2 (two_pos bd)
    have h2 : (2 : Int) ^ (bd - 1) * 2 ^ (bn + 1) ≤ den * 2 ^ (bn + 1) := Int.mul_le_mul_of_nonneg_right d1 (Int.le_of_lt (two_pos _))
    rw [← Int.pow_add, show bd - 1 + (bn + 1) = bn + bd by omega, Int.pow_add] at h2
    omega
  split
  · rename_i h; exact ⟨h, B⟩
  · rename_i h; exact ⟨A, by rw [show (bn : Int) - bd - 1 + 1 = bn - bd by omega]; exact h⟩
theorem logF_bd {num den : Int} {i j : Nat} (hn : Bd i num) (hd : Bd j den) : -(j : Int) - 1 ≤ logF num den ∧ logF num den ≤ i := by
  have h1 := PyProof.Rows.intBits_le hn
  have h2 := PyProof.Rows.intBits_le hd
  unfold logF
  split <;> omega
def F_log_of : DSp := fun ds μ Gd => ∃ num den : Int, ds = [.int num, .int den] ∧ Bd 100000 num ∧ Bd 100000 den ∧ Gd (.int (logF num den)) μ
-- log_of: slots 0=num 1=den 2=k 3=fits; level 1; calls 
def t_log_of : DTS :=
  dSeq (dAsg (dOp dSub (dBits (dVar 0)) (dBits (dVar 1))) (dgName 2)) (dSeq (dIfS (dTest (dOp dGe (dVar 2) (dC (.int 0)))) (dAsg (dOp dLe (dOp dShl (dVar 1) (dVar 2)) (dVar 0)) (dgName 3)) (dAsg (dOp dLe (dVar 1) (dOp dShl (dVar 0) (dUn dNeg (dVar 2)))) (dgName 3))) (dRet (dIf (dTest (dVar 3)) (dVar 2) (dOp dSub (dVar 2) (dC (.int 1))))))
theorem cnt_log_of : ∀ ds μ Gd, F_log_of ds μ Gd → ds.length = 2 := by
  rintro ds μ Gd ⟨a, b, rfl, _⟩; rfl
theorem ok_log_of : ∀ ds μ Gd, F_log_of ds μ Gd → t_log_of { nx := fun _ μ' => Gd .non μ', rt := Gd } (startD 4 ds) μ := by
  rintro ds μ Gd ⟨num, den, rfl, bn, bd, q⟩
  show t_log_of _ [some (.int num), some (.int den), none, none] _
  unfold t_log_of
  have h1 := PyProof.Rows.intBits_le bn
  have h2 := PyProof.Rows.intBits_le bd
  unfold logF at q
  walk_at "d"
  generalize Builtin.Int.intBits num = b at *
  generalize Builtin.Int.intBits den = c at *
  refine e_if (fun h => ?_) (fun h => ?_)
  · have hq : le2 ((b : Int) - c) num den ↔ den * 2 ^ ((b : Int) - c).toNat ≤ num := by
      unfold le2
      rw [show (-((b : Int) - c)).toNat = 0 by omega, Int.pow_zero, Int.mul_one]
    walk_at "d"
    refine e_shlN ((b : Int) - c).toNat (by omega) bd (by omega) ?_
    walk_at "d"
    refine e_if (fun h2 => ?_) (fun h2 => ?_)
    · rw [if_pos (hq.mpr h2)] at q
      walk_at "d"
      exact q
    · rw [if_neg (fun w => h2 (hq.mp w))] at q
      walk_at "d"
      exact q
  · have hq : le2 ((b : Int) - c) num den ↔ den ≤ num * 2 ^ (-((b : Int) - c)).toNat := by
      unfold le2
      rw [show ((b : Int) - c).toNat = 0 by omega, Int.pow_zero, Int.mul_one]
    walk_at "d"
    refine e_shlN (-((b : Int) - c)).toNat (by omega) bn (by omega) ?_
    walk_at "d"
    refine e_if (fun h2 => ?_) (fun h2 => ?_)
    · rw [if_pos (hq.mpr h2)] at q
      walk_at "d"
      exact q
    · rw [if_neg (fun w => h2 (hq.mp w))] at q
      walk_at "d"
      exact q
/-! ### positions -/
def expF (P : Nat) (lo hi num den : Int) : Int :=
  if num = 0 then lo else if (if logF num den - P < hi then logF num den - P else hi) > lo then (if logF num den - P < hi then logF num den - P else hi) else lo
theorem expF_in {P : Nat} {lo hi num den : Int} (h : lo ≤ hi) : lo ≤ expF P lo hi num den ∧ expF P lo hi num den ≤ hi := by
  unfold expF
  split
  · omega
  · split
    · split <;> omega
    · omega
/-- the exponent is above the least one: the fraction is not below 2 ** (e + P) -/
theorem expF_lo {P : Nat} {lo hi num den : Int} (n0 : 0 ≤ num) (d0 : 0 < den) (h : lo < expF P lo hi num den) : le2 (expF P lo hi num den + P) num den := by
  unfold expF at h ⊢
  by_cases z : num = 0
  · rw [if_pos z] at h; omega
  rw [if_neg z] at h ⊢
  obtain ⟨a, _⟩ := logF_spec (show 0 < num by omega) d0
  have mono : ∀ k : Int, k ≤ logF num den → le2 k num den := fun k hk => by
    obtain ⟨T, hT⟩ : ∃ T : Nat, 0 ≤ k + T := ⟨(-k).toNat, by omega⟩
    rw [le2_shift T hT]
    rw [le2_shift T (by omega)] at a
    exact Int.le_trans (Int.mul_le_mul_of_nonneg_left (pow_le2 (by omega)) (Int.le_of_lt d0)) a
  apply mono
  split at h
  · rename_i h2
    rw [if_pos h2]
    split <;> omega
  · omega
theorem expF_hi {P : Nat} {lo hi num den : Int} (n0 : 0 ≤ num) (d0 : 0 < den) (h : expF P lo hi num den < hi) : ¬ le2 (expF P lo hi num den + P + 1) num den := by
  by_cases z : num = 0
  · subst z
    unfold le2
    rw [Int.zero_mul]
    exact Int.not_le.mpr (Int.mul_pos d0 (two_pos _))
  obtain ⟨_, b⟩ := logF_spec (show 0 < num by omega) d0
  have mono : ∀ k : Int, logF num den + 1 ≤ k → ¬ le2 k num den := fun k hk c => b (by
    obtain ⟨T, hT⟩ : ∃ T : Nat, 0 ≤ logF num den + 1 + T := ⟨(-(logF num den + 1)).toNat, by omega⟩
    rw [le2_shift T hT]
    rw [le2_shift T (by omega)] at c
    exact Int.le_trans (Int.mul_le_mul_of_nonneg_left (pow_le2 (by omega)) (Int.le_of_lt d0)) c)
  apply mono
  unfold expF at h ⊢
  rw [if_neg z] at h ⊢
  by_cases h2 : logF num den - P < hi
  · rw [if_pos h2] at h ⊢
    split <;> omega
  · rw [if_neg h2] at h ⊢
    split at h <;> omega
def posD (P : Nat) (lo hi num den : Int) : Int := den * 2 ^ (expF P lo hi num den).toNat
def posN (P : Nat) (lo hi num den : Int) : Int := num * 2 ^ (-expF P lo hi num den).toNat + (expF P lo hi num den - lo) * 2 ^ P * posD P lo hi num den
theorem posD_pos {P : Nat} {lo hi num den : Int} (d0 : 0 < den) : 0 < posD P lo hi num den := Int.mul_pos d0 (two_pos _)
theorem posN_nn {P : Nat} {lo hi num den : Int} (h : lo ≤ hi) (n0 : 0 ≤ num) (d0 : 0 < den) : 0 ≤ posN P lo hi num den := by
  obtain ⟨e0, e1⟩ := expF_in (P := P) (num := num) (den := den) h
  exact Int.add_nonneg (Int.mul_nonneg n0 (Int.le_of_lt (two_pos _))) (Int.mul_nonneg (Int.mul_nonneg (by omega) (Int.le_of_lt (two_pos _))) (Int.le_of_lt (posD_pos d0)))
theorem sgn_mul {x c : Int} (hc : 0 < c) : (0 ≤ x ↔ 0 ≤ x * c) ∧ (x ≤ 0 ↔ x * c ≤ 0) := by
  refine ⟨⟨fun h => Int.mul_nonneg h (Int.le_of_lt hc), fun h => ?_⟩, ⟨fun h => ?_, fun h => ?_⟩⟩
  · exact Int.le_of_mul_le_mul_right (a := c) (by rw [Int.zero_mul]; exact h) hc
  · have := Int.mul_le_mul_of_nonneg_right h (Int.le_of_lt hc)
    rwa [Int.zero_mul] at this
  · exact Int.le_of_mul_le_mul_right (a := c) (by rw [Int.zero_mul]; exact h) hc
theorem key_gt {Y D A B Q K g M t : Int} {k : Nat} (hD : 0 < D) (hB : 0 < B) (hQ : 0 < Q) (hK : K = 2 ^ k) (hg : g = k + 1) (hA : A = 2 * B * K) (hY : D * Q * A ≤ Y) (m1 : M < 2 * Q) (t0 : 0 ≤ t) (t1 : t ≤ 2) :
    (0 ≤ 2 * Y + (2 * g * Q - (2 * M + t)) * (D * A) ∧ 0 ≤ 2 * Y - (2 * M + t) * (D * B)) ∧ (2 * Y + (2 * g * Q - (2 * M + t)) * (D * A) ≤ 0 ↔ 2 * Y - (2 * M + t) * (D * B) ≤ 0) := by
  have k1 : 1 ≤ K := by rw [hK]; have := two_pos k; omega
  have hA0 : 0 < A := by rw [hA]; exact Int.mul_pos (Int.mul_pos (by decide) hB) (by omega)
  have hDA := Int.mul_pos hD hA0
  have hDB := Int.mul_pos hD hB
  have gQ : Q ≤ g * Q := by
    have := Int.mul_le_mul_of_nonneg_right (show 1 ≤ g by omega) (Int.le_of_lt hQ)
    omega
  have QK : Q ≤ Q * K := by
    have := Int.mul_le_mul_of_nonneg_left k1 (Int.le_of_lt hQ)
    omega
  have eL : 2 * Y + (2 * g * Q - (2 * M + t)) * (D * A) = 2 * (Y - D * Q * A) + (2 * Q + 2 * (g * Q) - (2 * M + t)) * (D * A) := by
    have : D * Q * A = Q * (D * A) := by rw [Int.mul_comm D Q, Int.mul_assoc]
    rw [this]
    simp only [Int.sub_mul, Int.add_mul, Int.mul_sub, Int.mul_assoc]
    omega
  have eR : 2 * Y - (2 * M + t) * (D * B) = 2 * (Y - D * Q * A) + (4 * (Q * K) - (2 * M + t)) * (D * B) := by
    have : D * Q * A = 2 * (Q * K) * (D * B) := by rw [hA, Int.mul_comm D Q]; simp only [Int.mul_assoc, Int.mul_comm, Int.mul_left_comm]
    rw [this]
    simp only [Int.sub_mul, Int.add_mul, Int.mul_sub, Int.mul_assoc]
    omega
  rw [eL, eR]
  have s2 : 0 ≤ 2 * Q + 2 * (g * Q) - (2 * M + t) := by omega
  have s3 : 0 ≤ 4 * (Q * K) - (2 * M + t) := by omega
  have p2 := Int.mul_nonneg s2 (Int.le_of_lt hDA)
  have p3 := Int.mul_nonneg s3 (Int.le_of_lt hDB)
  refine ⟨⟨by omega, by omega⟩, ⟨fun h => ?_, fun h => ?_⟩⟩
  · have z2 : (2 * Q + 2 * (g * Q) - (2 * M + t)) * (D * A) = 0 := by omega
    have z2 := (Int.mul_eq_zero.mp z2).resolve_right (by omega)
    have g1 : g * Q = Q := by omega
    have g1 : g = 1 := by
      have : g * Q ≤ 1 * Q := by omega
      have := Int.le_of_mul_le_mul_right this hQ
      omega
    have k0 : k = 0 := by omega
    have K1 : K = 1 := by rw [hK, k0]; rfl
    rw [K1, Int.mul_one, show 4 * Q - (2 * M + t) = 0 by omega, Int.zero_mul]
    omega
  · have z3 : (4 * (Q * K) - (2 * M + t)) * (D * B) = 0 := by omega
    have z3 := (Int.mul_eq_zero.mp z3).resolve_right (by omega)
    have K1 : K = 1 := by
      have : Q * K ≤ Q * 1 := by omega
      have := Int.le_of_mul_le_mul_left this hQ
      omega
    have k0 : k = 0 := Nat.eq_zero_of_not_pos fun h => by
      have := pow_le2 (show 1 ≤ k from h)
      rw [← hK, K1] at this
      exact absurd this (by decide)
    have g1 : g = 1 := by omega
    rw [g1, Int.one_mul, show 2 * Q + 2 * Q - (2 * M + t) = 0 by rw [K1, Int.mul_one] at z3; omega, Int.zero_mul]
    omega
theorem key_lt {Y D A B Q K g M t : Int} (hD : 0 < D) (hA0 : 0 < A) (hQ : 0 < Q) (k1 : 1 ≤ K) (hg : 1 ≤ g) (hB : B = 2 * A * K) (hY : Y < 2 * (D * Q * A)) (m0 : Q ≤ M) (t0 : 0 ≤ t) :
    2 * Y + (-(2 * g * Q) - (2 * M + t)) * (D * A) < 0 ∧ 2 * Y - (2 * M + t) * (D * B) < 0 := by
  have hDA := Int.mul_pos hD hA0
  have gQ : Q ≤ g * Q := by
    have := Int.mul_le_mul_of_nonneg_right hg (Int.le_of_lt hQ)
    omega
  have e : D * Q * A = Q * (D * A) := by rw [Int.mul_comm D Q, Int.mul_assoc]
  rw [e] at hY
  constructor
  · have : (-(2 * g * Q) - (2 * M + t)) * (D * A) ≤ -(4 * Q) * (D * A) := Int.mul_le_mul_of_nonneg_right (by rw [Int.mul_assoc]; omega) (Int.le_of_lt hDA)
    rw [Int.neg_mul, Int.mul_assoc 4] at this
    omega
  · have h1 : D * B = 2 * K * (D * A) := by rw [hB]; simp only [Int.mul_assoc, Int.mul_comm, Int.mul_left_comm]
    have h2 : 2 * Q ≤ (2 * M + t) * K := by
      have := Int.mul_le_mul (show 2 * Q ≤ 2 * M + t by omega) k1 (by decide) (by omega)
      omega
    have h3 : 2 * Q * (2 * (D * A)) ≤ (2 * M + t) * K * (2 * (D * A)) := Int.mul_le_mul_of_nonneg_right h2 (by omega)
    have h4 : (2 * M + t) * (D * B) = (2 * M + t) * K * (2 * (D * A)) := by rw [h1]; simp only [Int.mul_assoc, Int.mul_comm, Int.mul_left_comm]
    have h5 : 2 * Q * (2 * (D * A)) = 4 * (Q * (D * A)) := by rw [Int.mul_assoc 2 Q, Int.mul_left_comm Q 2]; omega
    rw [h4]; omega
/-- where a fraction lies among the numbers is where its position lies among the codes -/
theorem pos_key {P : Nat} {lo hi num den M E t : Int} (hlh : lo ≤ hi) (n0 : 0 ≤ num) (d0 : 0 < den) (c : can P lo hi M E) (t0 : 0 ≤ t) (t1 : t ≤ 2) :
    ((2 * ((E - lo) * 2 ^ P + M) + t) * posD P lo hi num den ≤ 2 * posN P lo hi num den ↔ (2 * M + t) * (den * 2 ^ E.toNat) ≤ 2 * (num * 2 ^ (-E).toNat)) ∧
    (2 * posN P lo hi num den ≤ (2 * ((E - lo) * 2 ^ P + M) + t) * posD P lo hi num den ↔ 2 * (num * 2 ^ (-E).toNat) ≤ (2 * M + t) * (den * 2 ^ E.toNat)) := by
  obtain ⟨m0, m1, l, h, cc⟩ := c
  obtain ⟨e0, e1⟩ := expF_in (P := P) (num := num) (den := den) hlh
  have flo := expF_lo (P := P) (lo := lo) (hi := hi) n0 d0
  have fhi := expF_hi (P := P) (lo := lo) (hi := hi) n0 d0
  unfold posN posD
  generalize expF P lo hi num den = e at *
  obtain ⟨T, hT⟩ : ∃ T : Nat, T = (-E).toNat + (-e).toNat := ⟨_, rfl⟩
  have hQ := two_pos P
  -- both sides times a power of two
  have L : ∀ x : Int, (2 * (num * 2 ^ (-e).toNat + (e - lo) * 2 ^ P * (den * 2 ^ e.toNat)) - x * (den * 2 ^ e.toNat)) * 2 ^ (-E).toNat = 2 * (num * 2 ^ T) + (2 * (e - lo) * 2 ^ P - x) * (den * 2 ^ (e + T).toNat) := fun x => by
    rw [show (e + T).toNat = e.toNat + (-E).toNat by omega, show T = (-e).toNat + (-E).toNat by omega, Int.pow_add, Int.pow_add]
    simp only [Int.add_mul, Int.sub_mul, Int.mul_add, Int.mul_assoc, Int.add_sub_assoc]
  have R : (2 * (num * 2 ^ (-E).toNat) - (2 * M + t) * (den * 2 ^ E.toNat)) * 2 ^ (-e).toNat = 2 * (num * 2 ^ T) - (2 * M + t) * (den * 2 ^ (E + T).toNat) := by
    rw [show (E + T).toNat = E.toNat + (-e).toNat by omega, hT, Int.pow_add, Int.pow_add]
    simp only [Int.sub_mul, Int.mul_assoc]
  obtain ⟨La, Lb⟩ := sgn_mul (x := 2 * (num * 2 ^ (-e).toNat + (e - lo) * 2 ^ P * (den * 2 ^ e.toNat)) - (2 * ((E - lo) * 2 ^ P + M) + t) * (den * 2 ^ e.toNat)) (two_pos (-E).toNat)
  obtain ⟨Ra, Rb⟩ := sgn_mul (x := 2 * (num * 2 ^ (-E).toNat) - (2 * M + t) * (den * 2 ^ E.toNat)) (two_pos (-e).toNat)
  rw [L] at La Lb
  rw [R] at Ra Rb
  have eg : 2 * (e - lo) * 2 ^ P - (2 * ((E - lo) * 2 ^ P + M) + t) = 2 * (e - E) * 2 ^ P - (2 * M + t) := by
    simp only [Int.sub_mul, Int.mul_add, Int.mul_sub, Int.mul_assoc]; omega
  rw [eg] at La Lb
  have fin : (0 ≤ 2 * (num * 2 ^ T) + (2 * (e - E) * 2 ^ P - (2 * M + t)) * (den * 2 ^ (e + T).toNat) ↔ 0 ≤ 2 * (num * 2 ^ T) - (2 * M + t) * (den * 2 ^ (E + T).toNat)) ∧ (2 * (num * 2 ^ T) + (2 * (e - E) * 2 ^ P - (2 * M + t)) * (den * 2 ^ (e + T).toNat) ≤ 0 ↔ 2 * (num * 2 ^ T) - (2 * M + t) * (den * 2 ^ (E + T).toNat) ≤ 0) := by
    rcases Int.lt_trichotomy e E with w | w | w
    · have hi1 := fhi (by omega)
      rw [le2_shift T (by omega)] at hi1
      have cM : 2 ^ P ≤ M := cc.resolve_right (by omega)
      obtain ⟨k, hk⟩ : ∃ k : Nat, E = e + k + 1 := ⟨(E - e - 1).toNat, by omega⟩
      have ex : (2 : Int) ^ (E + T).toNat = 2 * 2 ^ (e + T).toNat * 2 ^ k := by
        rw [show (E + T).toNat = (e + T).toNat + 1 + k by omega, Int.pow_add, Int.pow_succ, Int.mul_comm (2 ^ (e + T).toNat) 2]
      have hY : num * 2 ^ T < 2 * (den * 2 ^ P * 2 ^ (e + T).toNat) := by
        have : (2 : Int) ^ (e + P + 1 + T).toNat = 2 ^ P * 2 ^ (e + T).toNat * 2 := by
          rw [show (e + P + 1 + T).toNat = P + (e + T).toNat + 1 by omega, Int.pow_succ, Int.pow_add]
        rw [this] at hi1
        have e2 : den * (2 ^ P * 2 ^ (e + T).toNat * 2) = 2 * (den * 2 ^ P * 2 ^ (e + T).toNat) := by simp only [Int.mul_assoc, Int.mul_comm, Int.mul_left_comm]
        omega
      have kk : (1 : Int) ≤ 2 ^ k := by have := two_pos k; omega
      obtain ⟨z1, z2⟩ := key_lt (g := E - e) (t := t) d0 (two_pos (e + T).toNat) hQ kk (by omega) ex hY cM t0
      have e3 : 2 * (e - E) * 2 ^ P - (2 * M + t) = -(2 * (E - e) * 2 ^ P) - (2 * M + t) := by
        simp only [Int.mul_sub, Int.sub_mul]; omega
      rw [e3]
      exact ⟨⟨fun x => by omega, fun x => by omega⟩, ⟨fun _ => by omega, fun _ => by omega⟩⟩
    · subst w
      rw [Int.sub_self, Int.mul_zero, Int.zero_mul, Int.zero_sub, Int.neg_mul, ← Int.sub_eq_add_neg]
      exact ⟨Iff.rfl, Iff.rfl⟩
    · have lo1 := flo (by omega)
      rw [le2_shift T (by omega)] at lo1
      obtain ⟨k, hk⟩ : ∃ k : Nat, e = E + k + 1 := ⟨(e - E - 1).toNat, by omega⟩
      have ex : (2 : Int) ^ (e + T).toNat = 2 * 2 ^ (E + T).toNat * 2 ^ k := by
        rw [show (e + T).toNat = (E + T).toNat + 1 + k by omega, Int.pow_add, Int.pow_succ, Int.mul_comm (2 ^ (E + T).toNat) 2]
      have hY : den * 2 ^ P * 2 ^ (e + T).toNat ≤ num * 2 ^ T := by
        rw [show (e + P + T).toNat = P + (e + T).toNat by omega, Int.pow_add, ← Int.mul_assoc] at lo1
        exact lo1
      have m1' : M < 2 * 2 ^ P := by rw [Int.pow_succ] at m1; omega
      obtain ⟨⟨z1, z2⟩, z3⟩ := key_gt (g := e - E) (t := t) d0 (two_pos (E + T).toNat) hQ rfl (by omega) ex hY m1' t0 t1
      exact ⟨⟨fun _ => z2, fun _ => z1⟩, z3⟩
  refine ⟨⟨fun x => ?_, fun x => ?_⟩, ⟨fun x => ?_, fun x => ?_⟩⟩
  · have := Ra.mpr (fin.1.mp (La.mp (by omega)))
    omega
  · have := La.mpr (fin.1.mpr (Ra.mp (by omega)))
    omega
  · have := Rb.mpr (fin.2.mp (Lb.mp (by omega)))
    omega
  · have := Lb.mpr (fin.2.mpr (Rb.mp (by omega)))
    omega
/-- a format as a value -/
def fm (P : Nat) (lo hi : Int) : D := .tup [.int (P + 1), .int lo, .int hi]
def okf (P : Nat) (lo hi : Int) : Prop := P ≤ 127 ∧ -1200 ≤ lo ∧ lo ≤ hi ∧ hi ≤ 1200
def F_is_whole : DSp := fun ds μ Gd => ∃ i : Int, ds = [.int i] ∧ Gd (.bl true) μ
-- is_whole: slots 0=value; level 1; calls 
def t_is_whole : DTS :=
  dRet (dAndV (dCB dIsi (dCons (dVar 0) (dCons (dC (.ty "int")) (dNil)))) (dNotV (dCB dIsi (dCons (dVar 0) (dCons (dC (.ty "bool")) (dNil))))))
theorem cnt_is_whole : ∀ ds μ Gd, F_is_whole ds μ Gd → ds.length = 1 := by
  rintro ds μ Gd ⟨i, rfl, _⟩; rfl
theorem ok_is_whole : ∀ ds μ Gd, F_is_whole ds μ Gd → t_is_whole { nx := fun _ μ' => Gd .non μ', rt := Gd } (startD 1 ds) μ := by
  rintro ds μ Gd ⟨i, rfl, q⟩
  show t_is_whole _ [some (.int i)] _
  unfold t_is_whole
  walk_at "d"
  exact q
def F_is_between : DSp := fun ds μ Gd => ∃ i a b : Int, ds = [.int i, .int a, .int b] ∧ a ≤ i ∧ i ≤ b ∧ Gd (.bl true) μ
-- is_between: slots 0=value 1=least 2=greatest; level 2; calls is_whole
def t_is_between : DTS :=
  dRet (dAndV (dCall F_is_whole (dCons (dVar 0) (dNil))) (dChain dLe dLe (dVar 1) (dVar 0) (dVar 2)))
theorem cnt_is_between : ∀ ds μ Gd, F_is_between ds μ Gd → ds.length = 3 := by
  rintro ds μ Gd ⟨i, a, b, rfl, _⟩; rfl
theorem ok_is_between : ∀ ds μ Gd, F_is_between ds μ Gd → t_is_between { nx := fun _ μ' => Gd .non μ', rt := Gd } (startD 3 ds) μ := by
  rintro ds μ Gd ⟨i, a, b, rfl, h1, h2, q⟩
  show t_is_between _ [some (.int i), some (.int a), some (.int b)] _
  unfold t_is_between
  walk_at "d"
  refine ⟨i, rfl, ?_⟩
  walk_at "d"
  first | exact q | (rw [decide_eq_true h2]; exact q)
def F_count_of : DSp := fun ds μ Gd => ∃ (P : Nat) (lo hi : Int), ds = [fm P lo hi] ∧ okf P lo hi ∧ Gd (.int (countF P lo hi)) μ
-- count_of: slots 0=form 1=p 2=low 3=high; level 1; calls 
def t_count_of : DTS :=
  dSeq (dAsg (dVar 0) (dgSeq 3 (dgCons (dgName 1) (dgCons (dgName 2) (dgCons (dgName 3) (dgNil)))))) (dRet (dOp dShl (dOp dAdd (dOp dSub (dVar 3) (dVar 2)) (dC (.int 2))) (dOp dSub (dVar 1) (dC (.int 1)))))
theorem cnt_count_of : ∀ ds μ Gd, F_count_of ds μ Gd → ds.length = 1 := by
  rintro ds μ Gd ⟨a, b, c, rfl, _⟩; rfl
theorem ok_count_of : ∀ ds μ Gd, F_count_of ds μ Gd → t_count_of { nx := fun _ μ' => Gd .non μ', rt := Gd } (startD 4 ds) μ := by
  rintro ds μ Gd ⟨P, lo, hi, rfl, ⟨o1, o2, o3, o4⟩, q⟩
  show t_count_of _ [some (.tup [.int (P + 1), .int lo, .int hi]), none, none, none] _
  unfold t_count_of
  walk_at "d"
  refine e_shlN (n := 12) P (by omega) (bd_small 12 (by omega)) (by omega) ?_
  walk_at "d"
  exact q
def F_parts_at : DSp := fun ds μ Gd => ∃ (P : Nat) (lo hi code : Int), ds = [fm P lo hi, .int code] ∧ okf P lo hi ∧ 0 ≤ code ∧ Bd 200 code ∧ Gd (.tup [.int (partM P code), .int (partE P lo code)]) μ
-- parts_at: slots 0=form 1=code 2=p 3=low 4=_ 5=above; level 1; calls 
def t_parts_at : DTS :=
  dSeq (dAsg (dVar 0) (dgSeq 3 (dgCons (dgName 2) (dgCons (dgName 3) (dgCons (dgName 4) (dgNil)))))) (dSeq (dAsg (dCB dMax2 (dCons (dOp dSub (dOp dShr (dVar 1) (dOp dSub (dVar 2) (dC (.int 1)))) (dC (.int 1))) (dCons (dC (.int 0)) (dNil)))) (dgName 5)) (dRet (dTup (dCons (dOp dSub (dVar 1) (dOp dShl (dVar 5) (dOp dSub (dVar 2) (dC (.int 1))))) (dCons (dOp dAdd (dVar 3) (dVar 5)) (dNil))))))
theorem cnt_parts_at : ∀ ds μ Gd, F_parts_at ds μ Gd → ds.length = 2 := by
  rintro ds μ Gd ⟨a, b, c, d, rfl, _⟩; rfl
theorem ok_parts_at : ∀ ds μ Gd, F_parts_at ds μ Gd → t_parts_at { nx := fun _ μ' => Gd .non μ', rt := Gd } (startD 6 ds) μ := by
  rintro ds μ Gd ⟨P, lo, hi, code, rfl, ⟨o1, o2, o3, o4⟩, c0, bc, q⟩
  show t_parts_at _ [some (.tup [.int (P + 1), .int lo, .int hi]), some (.int code), none, none, none, none] _
  unfold t_parts_at
  obtain ⟨p1, p2⟩ := parts_prog (P := P) (lo := lo) c0
  walk_at "d"
  refine e_shrN P (by omega) ?_
  walk_at "d"
  have hb : Bd 201 (if 0 > code / 2 ^ P - 1 then 0 else code / 2 ^ P - 1) := by
    have h1 : Bd 201 (code / 2 ^ P - 1) := bd_sub (bd_div bc) (bd_up (bd_small (x := 1) 1 (by decide)) (by decide))
    split
    · exact Nat.pow_pos (by decide)
    · exact h1
  refine e_shlN (n := 201) P (by omega) hb (by omega) ?_
  walk_at "d"
  rw [p1, p2]
  exact q
theorem bd_count {P : Nat} {lo hi : Int} (o : okf P lo hi) : Bd 140 (countF P lo hi) := by
  obtain ⟨o1, o2, o3, o4⟩ := o
  have h1 : Bd 12 (hi - lo + 2) := bd_small 12 (by omega)
  have h2 : Bd 128 ((2 : Int) ^ P) := by
    show ((2 : Int) ^ P).natAbs < 2 ^ 128
    rw [Int.natAbs_pow]
    exact Nat.pow_lt_pow_right (by decide) (by omega)
  exact bd_mul h1 h2
def F_value_of : DSp := fun ds μ Gd => ∃ (P : Nat) (lo hi code : Int), ds = [fm P lo hi, .int code] ∧ okf P lo hi ∧ 0 ≤ code ∧ code < countF P lo hi ∧ Gd (.tup [.int (partM P code), .int (partE P lo code)]) μ
-- value_of: slots 0=form 1=code; level 3; calls count_of, is_between, parts_at
def t_value_of : DTS :=
  dSeq (dIfS (dNotT (dTest (dCall F_is_between (dCons (dVar 1) (dCons (dC (.int 0)) (dCons (dOp dSub (dCall F_count_of (dCons (dVar 0) (dNil))) (dC (.int 1))) (dNil))))))) (dNever) (dNext)) (dRet (dCall F_parts_at (dCons (dVar 0) (dCons (dVar 1) (dNil)))))
theorem cnt_value_of : ∀ ds μ Gd, F_value_of ds μ Gd → ds.length = 2 := by
  rintro ds μ Gd ⟨a, b, c, d, rfl, _⟩; rfl
theorem bd_code {P : Nat} {lo hi code : Int} (o : okf P lo hi) (c0 : 0 ≤ code) (c1 : code < countF P lo hi) : Bd 140 code := bd_le c0 (Int.le_of_lt c1) (bd_count o)
theorem ok_value_of : ∀ ds μ Gd, F_value_of ds μ Gd → t_value_of { nx := fun _ μ' => Gd .non μ', rt := Gd } (startD 2 ds) μ := by
  rintro ds μ Gd ⟨P, lo, hi, code, rfl, o, c0, c1, q⟩
  show t_value_of _ [some (fm P lo hi), some (.int code)] _
  unfold t_value_of
  walk_at "d"
  refine ⟨P, lo, hi, rfl, o, ?_⟩
  walk_at "d"
  refine ⟨code, 0, countF P lo hi - 1, rfl, c0, by omega, ?_⟩
  walk_at "d"
  refine ⟨P, lo, hi, code, rfl, o, c0, bd_up (bd_code o c0 c1) (by decide), ?_⟩
  walk_at "d"
  exact q
def F_fraction_of : DSp := fun ds μ Gd => ∃ d p : Int, ds = [.tup [.int d, .int p]] ∧ Bd 100000 d ∧ -10000 ≤ p ∧ p ≤ 10000 ∧ Gd (.tup [.int (d * 10 ^ p.toNat), .int (10 ^ (-p).toNat)]) μ
-- fraction_of: slots 0=decimal 1=d 2=q; level 2; calls raised
def t_fraction_of : DTS :=
  dSeq (dAsg (dVar 0) (dgSeq 2 (dgCons (dgName 1) (dgCons (dgName 2) (dgNil))))) (dSeq (dIfS (dTest (dOp dLt (dVar 2) (dC (.int 0)))) (dRet (dTup (dCons (dVar 1) (dCons (dCall F_raised (dCons (dC (.int 10)) (dCons (dUn dNeg (dVar 2)) (dNil)))) (dNil))))) (dNext)) (dRet (dTup (dCons (dOp dMul (dVar 1) (dCall F_raised (dCons (dC (.int 10)) (dCons (dVar 2) (dNil))))) (dCons (dC (.int 1)) (dNil))))))
theorem cnt_fraction_of : ∀ ds μ Gd, F_fraction_of ds μ Gd → ds.length = 1 := by
  rintro ds μ Gd ⟨i, k, rfl, _⟩; rfl
theorem ok_fraction_of : ∀ ds μ Gd, F_fraction_of ds μ Gd → t_fraction_of { nx := fun _ μ' => Gd .non μ', rt := Gd } (startD 3 ds) μ := by
  rintro ds μ Gd ⟨d, p, rfl, bd, p0, p1, q⟩
  show t_fraction_of _ [some (.tup [.int d, .int p]), none, none] _
  unfold t_fraction_of
  walk_at "d"
  refine e_if (fun h => ?_) (fun h => ?_)
  · walk_at "d"
    refine ⟨10, (-p).toNat, by rw [show (((-p).toNat : Nat) : Int) = -p by omega], by omega, by decide, ?_⟩
    walk_at "d"
    rw [show p.toNat = 0 by omega, Int.pow_zero, Int.mul_one] at q
    exact q
  · walk_at "d"
    refine ⟨10, p.toNat, by rw [show ((p.toNat : Nat) : Int) = p by omega], by omega, by decide, ?_⟩
    refine e_mulI (mul_ok bd (pow10_bd _) (by omega)) ?_
    walk_at "d"
    rw [show (-p).toNat = 0 by omega, Int.pow_zero] at q
    exact q
/-! ### reading -/
inductive Way where
  | even | away | zero | out | odd
def Way.s : Way → Str
  | .even => PySem.Str.ofString "even"
  | .away => PySem.Str.ofString "away"
  | .zero => PySem.Str.ofString "zero"
  | .out => PySem.Str.ofString "out"
  | .odd => PySem.Str.ofString "odd"
def wayF (w : Way) (n d : Int) : Int :=
  if n % d = 0 then n / d else match w with
  | .zero => n / d
  | .out => n / d + 1
  | .odd => n / d + 1 - n / d % 2
  | .away => if 2 * (n % d) = d then n / d + 1 else if 2 * (n % d) > d then n / d + 1 else n / d
  | .even => if 2 * (n % d) = d then n / d + n / d % 2 else if 2 * (n % d) > d then n / d + 1 else n / d
def greatF (P : Nat) (lo hi : Int) : Way → Int
  | .zero => countF P lo hi - 1
  | .odd => countF P lo hi - 1 + 1 - (countF P lo hi - 1) % 2
  | _ => countF P lo hi
def readF (P : Nat) (lo hi : Int) (w : Way) (num den : Int) : Int :=
  if greatF P lo hi w < wayF w (posN P lo hi num den) (posD P lo hi num den) then greatF P lo hi w else wayF w (posN P lo hi num den) (posD P lo hi num den)
def okq (num den : Int) : Prop := 0 ≤ num ∧ 0 < den ∧ Bd 20000 num ∧ Bd 7000 den
def F_exponent_at : DSp := fun ds μ Gd => ∃ (P : Nat) (lo hi num den : Int), ds = [fm P lo hi, .int num, .int den] ∧ okf P lo hi ∧ okq num den ∧ Gd (.int (expF P lo hi num den)) μ
-- exponent_at: slots 0=form 1=num 2=den 3=p 4=low 5=high; level 2; calls log_of
def t_exponent_at : DTS :=
  dSeq (dAsg (dVar 0) (dgSeq 3 (dgCons (dgName 3) (dgCons (dgName 4) (dgCons (dgName 5) (dgNil)))))) (dSeq (dIfS (dTest (dOp dEq (dVar 1) (dC (.int 0)))) (dRet (dVar 4)) (dNext)) (dRet (dCB dMax2 (dCons (dVar 4) (dCons (dCB dMin2 (dCons (dVar 5) (dCons (dOp dAdd (dOp dSub (dCall F_log_of (dCons (dVar 1) (dCons (dVar 2) (dNil)))) (dVar 3)) (dC (.int 1))) (dNil)))) (dNil))))))
theorem cnt_exponent_at : ∀ ds μ Gd, F_exponent_at ds μ Gd → ds.length = 3 := by
  rintro ds μ Gd ⟨a, b, c, d, e, rfl, _⟩; rfl
theorem ok_exponent_at : ∀ ds μ Gd, F_exponent_at ds μ Gd → t_exponent_at { nx := fun _ μ' => Gd .non μ', rt := Gd } (startD 6 ds) μ := by
  rintro ds μ Gd ⟨P, lo, hi, num, den, rfl, ⟨o1, o2, o3, o4⟩, ⟨n0, d0, bn, bd⟩, q⟩
  show t_exponent_at _ [some (.tup [.int (P + 1), .int lo, .int hi]), some (.int num), some (.int den), none, none, none] _
  unfold t_exponent_at
  unfold expF at q
  walk_at "d"
  refine e_if (fun h => ?_) (fun h => ?_)
  · rw [if_pos h] at q
    walk_at "d"
    exact q
  · rw [if_neg h] at q
    walk_at "d"
    refine ⟨num, den, rfl, bd_up bn (by decide), bd_up bd (by decide), ?_⟩
    walk_at "d"
    rw [show logF num den - ((P : Int) + 1) + 1 = logF num den - P by omega]
    exact q
theorem bd_expo {P : Nat} {lo hi num den : Int} (o : okf P lo hi) : -1200 ≤ expF P lo hi num den ∧ expF P lo hi num den ≤ 1200 := by
  obtain ⟨o1, o2, o3, o4⟩ := o
  obtain ⟨h1, h2⟩ := expF_in (P := P) (num := num) (den := den) o3
  exact ⟨by omega, by omega⟩
theorem bd_posD {P : Nat} {lo hi num den : Int} (o : okf P lo hi) (k : okq num den) : Bd 8201 (posD P lo hi num den) := by
  obtain ⟨n0, d0, bn, bd⟩ := k
  obtain ⟨h1, h2⟩ := bd_expo (num := num) (den := den) o
  exact bd_mul bd (bd_pow (n := 1201) (by omega))
theorem bd_posN {P : Nat} {lo hi num den : Int} (o : okf P lo hi) (k : okq num den) : Bd 30000 (posN P lo hi num den) := by
  have bD := bd_posD o k
  obtain ⟨n0, d0, bn, bd⟩ := k
  obtain ⟨h1, h2⟩ := bd_expo (num := num) (den := den) o
  obtain ⟨o1, o2, o3, o4⟩ := id o
  have b1 : Bd 21201 (num * 2 ^ (-expF P lo hi num den).toNat) := bd_mul bn (bd_pow (n := 1201) (by omega))
  have b2 : Bd 12 (expF P lo hi num den - lo) := bd_small 12 (by omega)
  have b3 : Bd 140 ((expF P lo hi num den - lo) * 2 ^ P) := bd_mul b2 (bd_pow (n := 128) (by omega))
  exact bd_up (bd_add (k := 21201) b1 (bd_up (bd_mul b3 bD) (by decide))) (by decide)
def F_rough_position : DSp := fun ds μ Gd => ∃ (P : Nat) (lo hi num den : Int), ds = [fm P lo hi, .int num, .int den] ∧ okf P lo hi ∧ okq num den ∧ Gd (.tup [.int (posN P lo hi num den), .int (posD P lo hi num den)]) μ
-- rough_position: slots 0=form 1=num 2=den 3=p 4=low 5=_ 6=e; level 3; calls exponent_at
def t_rough_position : DTS :=
  dSeq (dAsg (dVar 0) (dgSeq 3 (dgCons (dgName 3) (dgCons (dgName 4) (dgCons (dgName 5) (dgNil)))))) (dSeq (dAsg (dCall F_exponent_at (dCons (dVar 0) (dCons (dVar 1) (dCons (dVar 2) (dNil))))) (dgName 6)) (dSeq (dIfS (dTest (dOp dGe (dVar 6) (dC (.int 0)))) (dAsg (dOp dShl (dVar 2) (dVar 6)) (dgName 2)) (dAsg (dOp dShl (dVar 1) (dUn dNeg (dVar 6))) (dgName 1))) (dRet (dTup (dCons (dOp dAdd (dVar 1) (dOp dMul (dOp dShl (dOp dSub (dVar 6) (dVar 4)) (dOp dSub (dVar 3) (dC (.int 1)))) (dVar 2))) (dCons (dVar 2) (dNil)))))))
theorem cnt_rough_position : ∀ ds μ Gd, F_rough_position ds μ Gd → ds.length = 3 := by
  rintro ds μ Gd ⟨a, b, c, d, e, rfl, _⟩; rfl
theorem ok_rough_position : ∀ ds μ Gd, F_rough_position ds μ Gd → t_rough_position { nx := fun _ μ' => Gd .non μ', rt := Gd } (startD 7 ds) μ := by
  rintro ds μ Gd ⟨P, lo, hi, num, den, rfl, o, k, q⟩
  show t_rough_position _ [some (fm P lo hi), some (.int num), some (.int den), none, none, none, none] _
  unfold t_rough_position
  have bD := bd_posD o k
  obtain ⟨h1, h2⟩ := bd_expo (num := num) (den := den) o
  obtain ⟨o1, o2, o3, o4⟩ := id o
  obtain ⟨n0, d0, bn, bd⟩ := id k
  unfold posN posD at q
  unfold posD at bD
  walk_at "d"
  show dgSeq 3 _ (.tup [.int (P + 1), .int lo, .int hi]) _ _ _
  walk_at "d"
  refine ⟨P, lo, hi, num, den, rfl, o, k, ?_⟩
  generalize expF P lo hi num den = e at *
  walk_at "d"
  refine e_if (fun h => ?_) (fun h => ?_)
  · rw [show (-e).toNat = 0 by omega, Int.pow_zero, Int.mul_one] at q
    walk_at "d"
    refine e_shlN e.toNat (by omega) bd (by omega) ?_
    walk_at "d"
    refine e_shlN (n := 12) P (by omega) (bd_small 12 (by omega)) (by omega) ?_
    walk_at "d"
    refine e_mulI (mul_ok (bd_mul (bd_small (x := e - lo) 12 (by omega)) (bd_pow (k := P) (n := 128) (by omega))) bD) ?_
    walk_at "d"
    exact q
  · rw [show e.toNat = 0 by omega, Int.pow_zero, Int.mul_one] at q bD
    walk_at "d"
    refine e_shlN (-e).toNat (by omega) bn (by omega) ?_
    walk_at "d"
    refine e_shlN (n := 12) P (by omega) (bd_small 12 (by omega)) (by omega) ?_
    walk_at "d"
    refine e_mulI (mul_ok (bd_mul (bd_small (x := e - lo) 12 (by omega)) (bd_pow (k := P) (n := 128) (by omega))) bD) ?_
    walk_at "d"
    exact q
theorem orI {i j : Int} {μ : Mem} {Q : D → Mem → Prop} (h : Q (.int (Builtin.bitOr i j)) μ) : dOr (.int i) (.int j) μ Q := ⟨i, j, rfl, rfl, h⟩
theorem or_one (x : Int) : Builtin.bitOr x 1 = x + 1 - x % 2 := by rw [PyProof.Rows.bitOr_and, PyProof.Rows.bitAnd_m1]
def F_rounded_by : DSp := fun ds μ Gd => ∃ (w : Way) (n d : Int), ds = [.str w.s, .int n, .int d] ∧ 0 < d ∧ Bd 8999 d ∧ Gd (.int (wayF w n d)) μ
-- rounded_by: slots 0=way 1=n 2=d 3=whole 4=rest; level 1; calls 
def t_rounded_by : DTS :=
  dSeq (dAsg (dOp dFdiv (dVar 1) (dVar 2)) (dgName 3)) (dSeq (dAsg (dOp dMod (dVar 1) (dVar 2)) (dgName 4)) (dSeq (dIfS (dOrT (dTest (dOp dEq (dVar 4) (dC (.int 0)))) (dTest (dOp dEq (dVar 0) (dC (.str (PySem.Str.ofString "zero")))))) (dRet (dVar 3)) (dNext)) (dSeq (dIfS (dTest (dOp dEq (dVar 0) (dC (.str (PySem.Str.ofString "out"))))) (dRet (dOp dAdd (dVar 3) (dC (.int 1)))) (dNext)) (dSeq (dIfS (dTest (dOp dEq (dVar 0) (dC (.str (PySem.Str.ofString "odd"))))) (dRet (dOp dOr (dVar 3) (dC (.int 1)))) (dNext)) (dSeq (dIfS (dTest (dOp dEq (dOp dMul (dC (.int 2)) (dVar 4)) (dVar 2))) (dRet (dIf (dTest (dOp dEq (dVar 0) (dC (.str (PySem.Str.ofString "away"))))) (dOp dAdd (dVar 3) (dC (.int 1))) (dOp dAdd (dVar 3) (dOp dMod (dVar 3) (dC (.int 2)))))) (dNext)) (dRet (dIf (dTest (dOp dGt (dOp dMul (dC (.int 2)) (dVar 4)) (dVar 2))) (dOp dAdd (dVar 3) (dC (.int 1))) (dVar 3))))))))
theorem cnt_rounded_by : ∀ ds μ Gd, F_rounded_by ds μ Gd → ds.length = 3 := by
  rintro ds μ Gd ⟨a, b, c, rfl, _⟩; rfl
theorem w_zero (w : Way) : decide (w.s = PySem.Str.ofString "zero") = (match w with | .zero => true | _ => false) := by cases w <;> decide +kernel
theorem w_out (w : Way) : decide (w.s = PySem.Str.ofString "out") = (match w with | .out => true | _ => false) := by cases w <;> decide +kernel
theorem w_odd (w : Way) : decide (w.s = PySem.Str.ofString "odd") = (match w with | .odd => true | _ => false) := by cases w <;> decide +kernel
theorem w_away (w : Way) : decide (w.s = PySem.Str.ofString "away") = (match w with | .away => true | _ => false) := by cases w <;> decide +kernel
theorem ok_rounded_by : ∀ ds μ Gd, F_rounded_by ds μ Gd → t_rounded_by { nx := fun _ μ' => Gd .non μ', rt := Gd } (startD 5 ds) μ := by
  rintro ds μ Gd ⟨w, n, d, rfl, d0, bd, q⟩
  show t_rounded_by _ [some (.str w.s), some (.int n), some (.int d), none, none] _
  unfold t_rounded_by
  have hz := w_zero w
  have ho := w_out w
  have hd := w_odd w
  have ha := w_away w
  generalize w.s = z at *
  have hd0 : CDivW n d := div_ok d0 bd
  walk_at "d"
  refine e_fdiv hd0 ?_
  walk_at "d"
  unfold wayF at q
  refine e_if (fun h => ?_) (fun h => ?_)
  · rw [if_pos h] at q
    walk_at "d"
    exact q
  rw [if_neg h] at q
  walk_at "d"
  have br : Bd 8999 (n % d) := bd_mod d0 bd
  cases w with
  | zero =>
    refine e_ifT hz ?_
    walk_at "d"
    exact q
  | out =>
    refine e_ifF hz ?_
    walk_at "d"
    refine e_ifT ho ?_
    walk_at "d"
    exact q
  | odd =>
    refine e_ifF hz ?_
    walk_at "d"
    refine e_ifF ho ?_
    walk_at "d"
    refine e_ifT hd ?_
    walk_at "d"
    refine orI ?_
    rw [or_one]
    exact q
  | away =>
    refine e_ifF hz ?_
    walk_at "d"
    refine e_ifF ho ?_
    walk_at "d"
    refine e_ifF hd ?_
    walk_at "d"
    refine e_mulI (mul_ok (i := 2) (by decide) br) ?_
    walk_at "d"
    refine e_if (fun h2 => ?_) (fun h2 => ?_)
    · have q : Gd (.int (if 2 * (n % d) = d then n / d + 1 else if 2 * (n % d) > d then n / d + 1 else n / d)) μ := q
      rw [if_pos h2] at q
      walk_at "d"
      refine e_ifT ha ?_
      walk_at "d"
      exact q
    · have q : Gd (.int (if 2 * (n % d) = d then n / d + 1 else if 2 * (n % d) > d then n / d + 1 else n / d)) μ := q
      rw [if_neg h2] at q
      walk_at "d"
      refine e_mulI (mul_ok (i := 2) (by decide) br) ?_
      walk_at "d"
      refine e_if (fun h3 => ?_) (fun h3 => ?_)
      · rw [if_pos h3] at q
        walk_at "d"
        exact q
      · rw [if_neg h3] at q
        walk_at "d"
        exact q
  | even =>
    refine e_ifF hz ?_
    walk_at "d"
    refine e_ifF ho ?_
    walk_at "d"
    refine e_ifF hd ?_
    walk_at "d"
    refine e_mulI (mul_ok (i := 2) (by decide) br) ?_
    walk_at "d"
    refine e_if (fun h2 => ?_) (fun h2 => ?_)
    · have q : Gd (.int (if 2 * (n % d) = d then n / d + n / d % 2 else if 2 * (n % d) > d then n / d + 1 else n / d)) μ := q
      rw [if_pos h2] at q
      walk_at "d"
      refine e_ifF ha ?_
      walk_at "d"
      exact q
    · have q : Gd (.int (if 2 * (n % d) = d then n / d + n / d % 2 else if 2 * (n % d) > d then n / d + 1 else n / d)) μ := q
      rw [if_neg h2] at q
      walk_at "d"
      refine e_mulI (mul_ok (i := 2) (by decide) br) ?_
      walk_at "d"
      refine e_if (fun h3 => ?_) (fun h3 => ?_)
      · rw [if_pos h3] at q
        walk_at "d"
        exact q
      · rw [if_neg h3] at q
        walk_at "d"
        exact q
def F_greatest_read : DSp := fun ds μ Gd => ∃ (P : Nat) (lo hi : Int) (w : Way), ds = [fm P lo hi, .str w.s] ∧ okf P lo hi ∧ Gd (.int (greatF P lo hi w)) μ
-- greatest_read: slots 0=form 1=way 2=beyond; level 2; calls count_of
def t_greatest_read : DTS :=
  dSeq (dAsg (dCall F_count_of (dCons (dVar 0) (dNil))) (dgName 2)) (dSeq (dIfS (dTest (dOp dEq (dVar 1) (dC (.str (PySem.Str.ofString "zero"))))) (dRet (dOp dSub (dVar 2) (dC (.int 1)))) (dNext)) (dSeq (dIfS (dTest (dOp dEq (dVar 1) (dC (.str (PySem.Str.ofString "odd"))))) (dRet (dOp dOr (dOp dSub (dVar 2) (dC (.int 1))) (dC (.int 1)))) (dNext)) (dRet (dVar 2))))
theorem cnt_greatest_read : ∀ ds μ Gd, F_greatest_read ds μ Gd → ds.length = 2 := by
  rintro ds μ Gd ⟨a, b, c, d, rfl, _⟩; rfl
theorem ok_greatest_read : ∀ ds μ Gd, F_greatest_read ds μ Gd → t_greatest_read { nx := fun _ μ' => Gd .non μ', rt := Gd } (startD 3 ds) μ := by
  rintro ds μ Gd ⟨P, lo, hi, w, rfl, o, q⟩
  show t_greatest_read _ [some (fm P lo hi), some (.str w.s), none] _
  unfold t_greatest_read
  have hz := w_zero w
  have hd := w_odd w
  generalize w.s = z at *
  walk_at "d"
  refine ⟨P, lo, hi, rfl, o, ?_⟩
  walk_at "d"
  cases w with
  | zero =>
    refine e_ifT hz ?_
    walk_at "d"
    exact q
  | odd =>
    refine e_ifF hz ?_
    walk_at "d"
    refine e_ifT hd ?_
    walk_at "d"
    refine orI ?_
    rw [or_one]
    exact q
  | even =>
    refine e_ifF hz ?_
    walk_at "d"
    refine e_ifF hd ?_
    walk_at "d"
    exact q
  | away =>
    refine e_ifF hz ?_
    walk_at "d"
    refine e_ifF hd ?_
    walk_at "d"
    exact q
  | out =>
    refine e_ifF hz ?_
    walk_at "d"
    refine e_ifF hd ?_
    walk_at "d"
    exact q
def F_read_fraction : DSp := fun ds μ Gd => ∃ (P : Nat) (lo hi num den : Int) (w : Way), ds = [fm P lo hi, .str w.s, .int num, .int den] ∧ okf P lo hi ∧ okq num den ∧ Gd (.int (readF P lo hi w num den)) μ
-- read_fraction: slots 0=form 1=way 2=num 3=den 4=n 5=d; level 4; calls greatest_read, rough_position, rounded_by
def t_read_fraction : DTS :=
  dSeq (dAsg (dCall F_rough_position (dCons (dVar 0) (dCons (dVar 2) (dCons (dVar 3) (dNil))))) (dgSeq 2 (dgCons (dgName 4) (dgCons (dgName 5) (dgNil))))) (dRet (dCB dMin2 (dCons (dCall F_rounded_by (dCons (dVar 1) (dCons (dVar 4) (dCons (dVar 5) (dNil))))) (dCons (dCall F_greatest_read (dCons (dVar 0) (dCons (dVar 1) (dNil)))) (dNil)))))
theorem cnt_read_fraction : ∀ ds μ Gd, F_read_fraction ds μ Gd → ds.length = 4 := by
  rintro ds μ Gd ⟨a, b, c, d, e, f, rfl, _⟩; rfl
theorem ok_read_fraction : ∀ ds μ Gd, F_read_fraction ds μ Gd → t_read_fraction { nx := fun _ μ' => Gd .non μ', rt := Gd } (startD 6 ds) μ := by
  rintro ds μ Gd ⟨P, lo, hi, num, den, w, rfl, o, k, q⟩
  show t_read_fraction _ [some (fm P lo hi), some (.str w.s), some (.int num), some (.int den), none, none] _
  unfold t_read_fraction
  unfold readF at q
  walk_at "d"
  refine ⟨P, lo, hi, num, den, rfl, o, k, ?_⟩
  walk_at "d"
  refine ⟨w, _, _, rfl, posD_pos k.2.1, bd_up (bd_posD o k) (by decide), ?_⟩
  walk_at "d"
  refine ⟨P, lo, hi, w, rfl, o, ?_⟩
  walk_at "d"
  exact q
/-! ### what is read -/
theorem count_two {P : Nat} {lo hi : Int} (o : lo ≤ hi) : 2 ^ (P + 1) ≤ countF P lo hi := by
  have : 2 * 2 ^ P ≤ (hi - lo + 2) * 2 ^ P := Int.mul_le_mul_of_nonneg_right (by omega) (Int.le_of_lt (pow_pos' P))
  rw [pow_s]; exact this
theorem count_ge {P : Nat} {lo hi : Int} (o : lo ≤ hi) : 2 ≤ countF P lo hi := by
  have := count_two (P := P) o
  have h := two_pos P
  rw [pow_s] at this
  omega
/-- c is the lower neighbour -/
def lowC (P : Nat) (lo hi num den : Int) : Int := if posN P lo hi num den / posD P lo hi num den < countF P lo hi - 1 then posN P lo hi num den / posD P lo hi num den else countF P lo hi - 1
def isE (P : Nat) (lo hi num den : Int) : Prop := posN P lo hi num den = lowC P lo hi num den * posD P lo hi num den ∧ ∀ w, readF P lo hi w num den = lowC P lo hi num den
def isR (P : Nat) (lo hi num den : Int) : Prop :=
  lowC P lo hi num den * posD P lo hi num den < posN P lo hi num den ∧ (posN P lo hi num den < (lowC P lo hi num den + 1) * posD P lo hi num den ∨ lowC P lo hi num den = countF P lo hi - 1) ∧
  readF P lo hi .zero num den = lowC P lo hi num den ∧ readF P lo hi .out num den = lowC P lo hi num den + 1 ∧ readF P lo hi .odd num den = lowC P lo hi num den + 1 - lowC P lo hi num den % 2 ∧
  readF P lo hi .even num den = (if 2 * posN P lo hi num den < (2 * lowC P lo hi num den + 1) * posD P lo hi num den then lowC P lo hi num den else if 2 * posN P lo hi num den = (2 * lowC P lo hi num den + 1) * posD P lo hi num den then lowC P lo hi num den + lowC P lo hi num den % 2 else lowC P lo hi num den + 1) ∧
  readF P lo hi .away num den = (if 2 * posN P lo hi num den < (2 * lowC P lo hi num den + 1) * posD P lo hi num den then lowC P lo hi num den else lowC P lo hi num den + 1)
theorem lowC_in {P : Nat} {lo hi num den : Int} (hlh : lo ≤ hi) (n0 : 0 ≤ num) (d0 : 0 < den) : 0 ≤ lowC P lo hi num den ∧ lowC P lo hi num den < countF P lo hi := by
  have h1 := Int.ediv_nonneg (posN_nn (P := P) hlh n0 d0) (Int.le_of_lt (posD_pos (P := P) (lo := lo) (hi := hi) (num := num) d0))
  have h2 := count_ge (P := P) hlh
  unfold lowC
  split <;> omega
theorem read_char {P : Nat} {lo hi num den : Int} (hlh : lo ≤ hi) (n0 : 0 ≤ num) (d0 : 0 < den) : isE P lo hi num den ∨ isR P lo hi num den := by
  have hd := posD_pos (P := P) (lo := lo) (hi := hi) (num := num) d0
  have hn := posN_nn (P := P) (lo := lo) (hi := hi) hlh n0 d0
  have hc := count_ge (P := P) hlh
  have h1 := Int.ediv_nonneg hn (Int.le_of_lt hd)
  have dm := Int.mul_ediv_add_emod (posN P lo hi num den) (posD P lo hi num den)
  have r0 := Int.emod_nonneg (posN P lo hi num den) (show posD P lo hi num den ≠ 0 by omega)
  have r1 := Int.emod_lt_of_pos (posN P lo hi num den) hd
  unfold isE isR lowC readF greatF wayF
  generalize posN P lo hi num den = n at *
  generalize posD P lo hi num den = d at *
  generalize countF P lo hi = N at *
  rw [Int.mul_comm] at dm
  have e1 : ∀ x : Int, (2 * x + 1) * d = 2 * (x * d) + d := fun x => by rw [Int.add_mul, Int.one_mul, Int.mul_assoc]
  by_cases hx : n / d < N - 1
  · rw [if_pos hx]
    by_cases hr : n % d = 0
    · refine .inl ⟨by omega, fun w => ?_⟩
      rw [if_pos hr]
      cases w <;> dsimp only <;> split <;> omega
    · refine .inr ⟨by omega, .inl (by rw [Int.add_mul, Int.one_mul]; omega), ?_⟩
      rw [if_neg hr, if_neg hr, if_neg hr, if_neg hr, if_neg hr, e1]
      generalize n / d * d = z at *
      generalize n / d = f at *
      refine ⟨?_, ?_, ?_, ?_, ?_⟩
      · dsimp only; split <;> omega
      · dsimp only; split <;> omega
      · dsimp only; split <;> omega
      · dsimp only
        repeat' split
        all_goals omega
      · dsimp only
        repeat' split
        all_goals omega
  · rw [if_neg hx]
    have hz : (N - 1) * d ≤ n / d * d := Int.mul_le_mul_of_nonneg_right (by omega) (Int.le_of_lt hd)
    by_cases hr : n % d = 0
    · by_cases hf : n / d = N - 1
      · refine .inl ⟨by rw [← hf]; omega, fun w => ?_⟩
        rw [if_pos hr]
        cases w <;> dsimp only <;> split <;> omega
      · have hz2 : N * d ≤ n / d * d := Int.mul_le_mul_of_nonneg_right (by omega) (Int.le_of_lt hd)
        refine .inr ⟨by rw [Int.sub_mul, Int.one_mul]; omega, .inr rfl, ?_⟩
        rw [if_pos hr, if_pos hr, if_pos hr, if_pos hr, if_pos hr, e1, Int.sub_mul, Int.one_mul]
        generalize n / d * d = z at *
        generalize n / d = f at *
        generalize N * d = y at *
        refine ⟨?_, ?_, ?_, ?_, ?_⟩
        · dsimp only; split <;> omega
        · dsimp only; split <;> omega
        · dsimp only; split <;> omega
        · dsimp only
          repeat' split
          all_goals omega
        · dsimp only
          repeat' split
          all_goals omega
    · refine .inr ⟨by omega, .inr rfl, ?_⟩
      rw [if_neg hr, if_neg hr, if_neg hr, if_neg hr, if_neg hr, e1]
      have hcase : n / d = N - 1 ∨ (N - 1) * d + d ≤ n / d * d := by
        by_cases hf : n / d = N - 1
        · exact .inl hf
        · refine .inr ?_
          have : N * d ≤ n / d * d := Int.mul_le_mul_of_nonneg_right (by omega) (Int.le_of_lt hd)
          rw [Int.sub_mul, Int.one_mul]; omega
      have hcase2 : n / d = N - 1 → n / d * d = (N - 1) * d := fun h => by rw [h]
      generalize (N - 1) * d = y at *
      generalize n / d * d = z at *
      generalize n / d = f at *
      refine ⟨?_, ?_, ?_, ?_, ?_⟩
      · dsimp only; split <;> omega
      · dsimp only; split <;> omega
      · dsimp only; split <;> omega
      · dsimp only
        repeat' split
        all_goals omega
      · dsimp only
        repeat' split
        all_goals omega
theorem low_le {P : Nat} {lo hi num den : Int} (hlh : lo ≤ hi) (n0 : 0 ≤ num) (d0 : 0 < den) : lowC P lo hi num den * posD P lo hi num den ≤ posN P lo hi num den := by
  rcases read_char (P := P) hlh n0 d0 with h | h
  · have := h.1; omega
  · have := h.1; omega
theorem low_ge {P : Nat} {lo hi num den c : Int} (d0 : 0 < den) (hc : c < countF P lo hi) (h : c * posD P lo hi num den ≤ posN P lo hi num den) : c ≤ lowC P lo hi num den := by
  have h1 : c ≤ posN P lo hi num den / posD P lo hi num den := (Int.le_ediv_iff_mul_le (posD_pos d0)).mpr h
  unfold lowC
  split <;> omega
theorem read_in {P : Nat} {lo hi num den : Int} (hlh : lo ≤ hi) (n0 : 0 ≤ num) (d0 : 0 < den) (w : Way) : lowC P lo hi num den ≤ readF P lo hi w num den ∧ readF P lo hi w num den ≤ lowC P lo hi num den + 1 := by
  rcases read_char (P := P) hlh n0 d0 with h | h
  · have := h.2 w; omega
  · obtain ⟨_, _, h1, h2, h3, h4, h5⟩ := h
    have := Int.emod_two_eq (lowC P lo hi num den)
    cases w with
    | zero => omega
    | out => omega
    | odd => omega
    | even =>
      rw [h4]
      repeat' split
      all_goals omega
    | away => rw [h5]; split <;> omega
theorem thr_up {num den num' den' K u v : Int} (d0 : 0 < den) (u0 : 0 < u) (v0 : 0 < v) (d0' : 0 < den') (h : num * den' ≤ num' * den) (k : K * (den * u) ≤ 2 * (num * v)) : K * (den' * u) ≤ 2 * (num' * v) := by
  refine Int.le_of_mul_le_mul_right (a := den) ?_ d0
  have h1 := Int.mul_le_mul_of_nonneg_right k (Int.le_of_lt d0')
  have h2 := Int.mul_le_mul_of_nonneg_right h (Int.le_of_lt v0)
  have e1 : K * (den' * u) * den = K * (den * u) * den' := by simp only [Int.mul_assoc, Int.mul_comm, Int.mul_left_comm]
  have e2 : 2 * (num * v) * den' = 2 * (num * den' * v) := by simp only [Int.mul_assoc, Int.mul_comm, Int.mul_left_comm]
  have e3 : 2 * (num' * v) * den = 2 * (num' * den * v) := by simp only [Int.mul_assoc, Int.mul_comm, Int.mul_left_comm]
  omega
theorem thr_dn {num den num' den' K u v : Int} (d0 : 0 < den) (u0 : 0 < u) (v0 : 0 < v) (d0' : 0 < den') (h : num * den' ≤ num' * den) (k : 2 * (num' * v) ≤ K * (den' * u)) : 2 * (num * v) ≤ K * (den * u) := by
  refine Int.le_of_mul_le_mul_right (a := den') ?_ d0'
  have h1 := Int.mul_le_mul_of_nonneg_right k (Int.le_of_lt d0)
  have h2 := Int.mul_le_mul_of_nonneg_right h (Int.le_of_lt v0)
  have e1 : K * (den' * u) * den = K * (den * u) * den' := by simp only [Int.mul_assoc, Int.mul_comm, Int.mul_left_comm]
  have e2 : 2 * (num * v) * den' = 2 * (num * den' * v) := by simp only [Int.mul_assoc, Int.mul_comm, Int.mul_left_comm]
  have e3 : 2 * (num' * v) * den = 2 * (num' * den * v) := by simp only [Int.mul_assoc, Int.mul_comm, Int.mul_left_comm]
  omega
/-- a code's own place, and halfway to the next -/
theorem code_key {P : Nat} {lo hi num den c t : Int} (hlh : lo ≤ hi) (n0 : 0 ≤ num) (d0 : 0 < den) (c0 : 0 ≤ c) (c1 : c < countF P lo hi) (t0 : 0 ≤ t) (t1 : t ≤ 2) :
    ((2 * c + t) * posD P lo hi num den ≤ 2 * posN P lo hi num den ↔ (2 * partM P c + t) * (den * 2 ^ (partE P lo c).toNat) ≤ 2 * (num * 2 ^ (-partE P lo c).toNat)) ∧
    (2 * posN P lo hi num den ≤ (2 * c + t) * posD P lo hi num den ↔ 2 * (num * 2 ^ (-partE P lo c).toNat) ≤ (2 * partM P c + t) * (den * 2 ^ (partE P lo c).toNat)) := by
  obtain ⟨hcan, hsum⟩ := part_can (P := P) (lo := lo) hlh c0 c1
  have := pos_key (num := num) (den := den) hlh n0 d0 hcan t0 t1
  rw [hsum] at this
  exact this
theorem pos_up {P : Nat} {lo hi num den num' den' c t : Int} (hlh : lo ≤ hi) (n0 : 0 ≤ num) (d0 : 0 < den) (n0' : 0 ≤ num') (d0' : 0 < den') (h : num * den' ≤ num' * den) (c0 : 0 ≤ c) (c1 : c < countF P lo hi) (t0 : 0 ≤ t) (t1 : t ≤ 2) (k : (2 * c + t) * posD P lo hi num den ≤ 2 * posN P lo hi num den) : (2 * c + t) * posD P lo hi num' den' ≤ 2 * posN P lo hi num' den' :=
  (code_key hlh n0' d0' c0 c1 t0 t1).1.mpr (thr_up d0 (two_pos _) (two_pos _) d0' h ((code_key hlh n0 d0 c0 c1 t0 t1).1.mp k))
theorem pos_dn {P : Nat} {lo hi num den num' den' c t : Int} (hlh : lo ≤ hi) (n0 : 0 ≤ num) (d0 : 0 < den) (n0' : 0 ≤ num') (d0' : 0 < den') (h : num * den' ≤ num' * den) (c0 : 0 ≤ c) (c1 : c < countF P lo hi) (t0 : 0 ≤ t) (t1 : t ≤ 2) (k : 2 * posN P lo hi num' den' ≤ (2 * c + t) * posD P lo hi num' den') : 2 * posN P lo hi num den ≤ (2 * c + t) * posD P lo hi num den :=
  (code_key hlh n0 d0 c0 c1 t0 t1).2.mpr (thr_dn d0 (two_pos _) (two_pos _) d0' h ((code_key hlh n0' d0' c0 c1 t0 t1).2.mp k))
theorem read_mono {P : Nat} {lo hi num den num' den' : Int} (w : Way) (hlh : lo ≤ hi) (n0 : 0 ≤ num) (d0 : 0 < den) (n0' : 0 ≤ num') (d0' : 0 < den') (h : num * den' ≤ num' * den) : readF P lo hi w num den ≤ readF P lo hi w num' den' := by
  obtain ⟨c0, c1⟩ := lowC_in (P := P) hlh n0 d0
  obtain ⟨c0', c1'⟩ := lowC_in (P := P) hlh n0' d0'
  have l1 := low_le (P := P) hlh n0 d0
  have u0 := pos_up (t := 0) hlh n0 d0 n0' d0' h c0 c1 (by decide) (by decide) (by rw [Int.add_zero, Int.mul_assoc]; omega)
  rw [Int.add_zero, Int.mul_assoc] at u0
  have hc := low_ge (P := P) d0' c1 (show lowC P lo hi num den * posD P lo hi num' den' ≤ _ by omega)
  obtain ⟨r1, r2⟩ := read_in (P := P) hlh n0 d0 w
  obtain ⟨r1', r2'⟩ := read_in (P := P) hlh n0' d0' w
  by_cases hlt : lowC P lo hi num den < lowC P lo hi num' den'
  · omega
  have he : lowC P lo hi num' den' = lowC P lo hi num den := by omega
  have up := pos_up (t := 1) hlh n0 d0 n0' d0' h c0 c1 (by decide) (by decide)
  have dn := pos_dn (t := 1) hlh n0 d0 n0' d0' h c0 c1 (by decide) (by decide)
  have dn0 := pos_dn (t := 0) hlh n0 d0 n0' d0' h c0 c1 (by decide) (by decide)
  rw [Int.add_zero, Int.mul_assoc, Int.mul_assoc] at dn0
  rcases read_char (P := P) hlh n0 d0 with ha | ha
  · have := ha.2 w; omega
  rcases read_char (P := P) hlh n0' d0' with hb | hb
  · have h1 := hb.1
    have h2 := ha.1
    rw [he] at h1
    have := dn0 (by omega)
    omega
  obtain ⟨_, _, h1, h2, h3, h4, h5⟩ := ha
  obtain ⟨_, _, h1', h2', h3', h4', h5'⟩ := hb
  rw [he] at h1' h2' h3' h4' h5'
  have := Int.emod_two_eq (lowC P lo hi num den)
  cases w with
  | zero => omega
  | out => omega
  | odd => omega
  | even =>
    rw [h4, h4']
    generalize (2 * lowC P lo hi num den + 1) * posD P lo hi num den = x at *
    generalize (2 * lowC P lo hi num den + 1) * posD P lo hi num' den' = y at *
    repeat' split
    all_goals omega
  | away =>
    rw [h5, h5']
    generalize (2 * lowC P lo hi num den + 1) * posD P lo hi num den = x at *
    generalize (2 * lowC P lo hi num den + 1) * posD P lo hi num' den' = y at *
    repeat' split
    all_goals omega
theorem read_same {P : Nat} {lo hi num den num' den' : Int} (w : Way) (hlh : lo ≤ hi) (n0 : 0 ≤ num) (d0 : 0 < den) (n0' : 0 ≤ num') (d0' : 0 < den') (h : num * den' = num' * den) : readF P lo hi w num den = readF P lo hi w num' den' :=
  Int.le_antisymm (read_mono w hlh n0 d0 n0' d0' (Int.le_of_eq h)) (read_mono w hlh n0' d0' n0 d0 (Int.le_of_eq h.symm))
theorem can_uniq {P : Nat} {lo hi M E c : Int} (h : can P lo hi M E) (hc : (E - lo) * 2 ^ P + M = c) : partM P c = M ∧ partE P lo c = E := by
  obtain ⟨m0, m1, l, hh, cc⟩ := h
  have hp := two_pos P
  have hs := pow_s P
  unfold partM partE
  rcases cc with w | w
  · by_cases hE : E = lo
    · subst hE
      rw [Int.sub_self, Int.zero_mul, Int.zero_add] at hc
      subst hc
      rw [if_pos m1, if_pos m1]
      exact ⟨rfl, rfl⟩
    · have h1 : 1 * 2 ^ P ≤ (E - lo) * 2 ^ P := Int.mul_le_mul_of_nonneg_right (by omega) (Int.le_of_lt hp)
      rw [if_neg (by omega), if_neg (by omega)]
      have e : c - 2 ^ (P + 1) = (M - 2 ^ P) + (E - lo - 1) * 2 ^ P := by rw [Int.sub_mul, Int.one_mul]; omega
      rw [e, Int.add_mul_emod_self_right, Int.add_mul_ediv_right _ _ (by omega), Int.emod_eq_of_lt (by omega) (by omega), Int.ediv_eq_zero_of_lt (by omega) (by omega)]
      exact ⟨by omega, by omega⟩
  · subst w
    rw [Int.sub_self, Int.zero_mul, Int.zero_add] at hc
    subst hc
    rw [if_pos m1, if_pos m1]
    exact ⟨rfl, rfl⟩
def cutS (num den b : Int) : Int := logF num den - b + 1
def cutG (num den b : Int) : Int := num * 2 ^ (-cutS num den b).toNat / (den * 2 ^ (cutS num den b).toNat)
def cutH (num den b : Int) : Int := if cutG num den b * den * 2 ^ (cutS num den b).toNat = num * 2 ^ (-cutS num den b).toNat then 0 else 1
theorem cut_lo {num den b : Int} (n0 : 0 < num) (d0 : 0 < den) (b0 : 1 ≤ b) : 2 ^ (b - 1).toNat ≤ cutG num den b := by
  have h := (logF_spec n0 d0).1
  unfold cutG
  have hs : logF num den = cutS num den b + b - 1 := by unfold cutS; omega
  generalize cutS num den b = s at *
  rw [hs, le2_shift (-s).toNat (by omega), show (s + b - 1 + ((-s).toNat : Nat)).toNat = s.toNat + (b - 1).toNat by omega, Int.pow_add, ← Int.mul_assoc] at h
  refine (Int.le_ediv_iff_mul_le (Int.mul_pos d0 (two_pos _))).mpr ?_
  rw [Int.mul_comm]; exact h
theorem cut_hi {num den b : Int} (n0 : 0 < num) (d0 : 0 < den) (b0 : 1 ≤ b) : cutG num den b < 2 ^ b.toNat := by
  have h := (logF_spec n0 d0).2
  unfold cutG
  have hs : logF num den = cutS num den b + b - 1 := by unfold cutS; omega
  generalize cutS num den b = s at *
  rw [hs, le2_shift (-s).toNat (by omega), show (s + b - 1 + 1 + ((-s).toNat : Nat)).toNat = s.toNat + b.toNat by omega, Int.pow_add, ← Int.mul_assoc] at h
  refine Int.ediv_lt_of_lt_mul (Int.mul_pos d0 (two_pos _)) ?_
  rw [Int.mul_comm (2 ^ b.toNat)]
  omega
/-! ### where a fraction lies among the powers of ten -/
def le10 (t num den : Int) : Prop := den * 10 ^ t.toNat ≤ num * 10 ^ (-t).toNat
instance (t num den : Int) : Decidable (le10 t num den) := inferInstanceAs (Decidable (_ ≤ _))
theorem pow_cancel10 {x y : Int} (a b c : Nat) : x * 10 ^ (a + c) ≤ y * 10 ^ (b + c) ↔ x * 10 ^ a ≤ y * 10 ^ b := by
  rw [Int.pow_add, Int.pow_add, ← Int.mul_assoc, ← Int.mul_assoc]
  exact ⟨fun h => Int.le_of_mul_le_mul_right h (pow10_pos c), fun h => Int.mul_le_mul_of_nonneg_right h (Int.le_of_lt (pow10_pos c))⟩
theorem le10_shift {k num den : Int} (t : Nat) (h : 0 ≤ k + t) : le10 k num den ↔ den * 10 ^ (k + t).toNat ≤ num * 10 ^ t := by
  unfold le10
  obtain ⟨c, hc⟩ : ∃ c : Nat, t = (-k).toNat + c := ⟨t - (-k).toNat, by omega⟩
  rw [show (k + t).toNat = k.toNat + c by omega, hc]
  exact (pow_cancel10 _ _ _).symm
theorem ten_le {a b : Nat} (h : a ≤ b) : (10 : Int) ^ a ≤ 10 ^ b := by
  obtain ⟨c, rfl⟩ := Nat.exists_eq_add_of_le h
  rw [Int.pow_add]
  have := Int.mul_le_mul_of_nonneg_left (show (1 : Int) ≤ 10 ^ c by have := pow10_pos c; omega) (Int.le_of_lt (pow10_pos a))
  omega
theorem le10_mono {k k' num den : Int} (d0 : 0 < den) (h : k' ≤ k) (a : le10 k num den) : le10 k' num den := by
  obtain ⟨T, hT⟩ : ∃ T : Nat, 0 ≤ k' + T := ⟨(-k').toNat, by omega⟩
  rw [le10_shift T hT]
  rw [le10_shift T (by omega)] at a
  exact Int.le_trans (Int.mul_le_mul_of_nonneg_left (ten_le (by omega)) (Int.le_of_lt d0)) a
def IsDec (t num den : Int) : Prop := le10 t num den ∧ ¬ le10 (t + 1) num den
theorem dec_uniq {t t' num den : Int} (d0 : 0 < den) (h : IsDec t num den) (h' : IsDec t' num den) : t = t' := by
  rcases Int.lt_trichotomy t t' with w | w | w
  · exact absurd (le10_mono d0 (by omega) h'.1) h.2
  · exact w
  · exact absurd (le10_mono d0 (by omega) h.1) h'.2
theorem two_le_ten (k : Nat) : (2 : Int) ^ k ≤ 10 ^ k := by
  have := Nat.pow_le_pow_left (show 2 ≤ 10 by decide) k
  have e : ∀ b k : Nat, ((b ^ k : Nat) : Int) = (b : Int) ^ k := fun b k => Int.natCast_pow b k
  have h : ((2 ^ k : Nat) : Int) ≤ ((10 ^ k : Nat) : Int) := Int.ofNat_le.mpr this
  rw [e, e] at h
  exact h
theorem le10_top {t num den : Int} {k : Nat} (d0 : 0 < den) (bn : Bd k num) (h : le10 t num den) : t < k := by
  refine Int.not_le.mp fun w => ?_
  have h := le10_mono d0 w h
  unfold le10 at h
  rw [show ((k : Int)).toNat = k from Int.toNat_natCast k, show (-(k : Int)).toNat = 0 by omega, Int.pow_zero, Int.mul_one] at h
  have h1 := of_bd bn
  have h2 := two_le_ten k
  have h3 := Int.mul_le_mul_of_nonneg_right (show 1 ≤ den by omega) (Int.le_of_lt (pow10_pos k))
  omega
theorem le10_low {t num den : Int} {k : Nat} (n0 : 0 < num) (d0 : 0 < den) (bd : Bd k den) (h : ¬ le10 t num den) : -(k : Int) < t := by
  refine Int.not_le.mp fun w => h (le10_mono d0 w ?_)
  unfold le10
  rw [show (-(k : Int)).toNat = 0 by omega, show (-(-(k : Int))).toNat = k by omega, Int.pow_zero, Int.mul_one]
  have h1 := of_bd bd
  have h2 := two_le_ten k
  have h3 := Int.mul_le_mul_of_nonneg_right (show 1 ≤ num by omega) (Int.le_of_lt (pow10_pos k))
  omega
/-- the powers of ten below the powers of two, each one looked at -/
def tbP (k : Nat) : Bool := Nat.ble (10 ^ (k * 315653 / 2 ^ 20)) (2 ^ k) && Nat.blt (2 ^ k) (10 ^ (k * 315653 / 2 ^ 20 + 1))
def tbM (k : Nat) : Bool := Nat.ble (2 ^ (k + 1)) (10 ^ (((k + 1) * 315653 - 1) / 2 ^ 20 + 1)) && Nat.blt (10 ^ (((k + 1) * 315653 - 1) / 2 ^ 20)) (2 ^ (k + 1))
def tbAll (f : Nat → Bool) : Nat → Bool
  | 0 => true
  | n + 1 => f n && tbAll f n
theorem tbAll_at {f : Nat → Bool} : ∀ {n : Nat}, tbAll f n = true → ∀ k, k < n → f k = true
  | 0, _, _, h => absurd h (by omega)
  | n + 1, h, k, hk => by
    unfold tbAll at h
    rw [Bool.and_eq_true] at h
    rcases (show k = n ∨ k < n by omega) with rfl | w
    · exact h.1
    · exact tbAll_at h.2 k w
set_option maxRecDepth 1000000 in
theorem tbP_all : tbAll tbP 1301 = true := by decide +kernel
set_option maxRecDepth 1000000 in
theorem tbM_all : tbAll tbM 1301 = true := by decide +kernel
theorem natPow (b k : Nat) : ((b ^ k : Nat) : Int) = (b : Int) ^ k := Int.natCast_pow b k
theorem tens_dec {e : Int} (e0 : -1300 ≤ e) (e1 : e ≤ 1300) : IsDec (e * 315653 / 2 ^ 20) (2 ^ e.toNat) (2 ^ (-e).toNat) := by
  unfold IsDec le10
  rw [Int.not_le]
  rcases (show 0 ≤ e ∨ e < 0 by omega) with h | h
  · obtain ⟨k, rfl⟩ := Int.eq_ofNat_of_zero_le h
    have t := tbAll_at tbP_all k (by omega)
    unfold tbP at t
    rw [Bool.and_eq_true] at t
    have t1 := Nat.le_of_ble_eq_true t.1
    have t2 : 2 ^ k < 10 ^ (k * 315653 / 2 ^ 20 + 1) := Nat.le_of_ble_eq_true t.2
    have ek : ((k : Nat) : Int) * 315653 / 2 ^ 20 = ((k * 315653 / 2 ^ 20 : Nat) : Int) := by rw [Int.natCast_ediv]; rfl
    rw [ek]
    generalize k * 315653 / 2 ^ 20 = u at *
    rw [show (-(k : Int)).toNat = 0 by omega, show ((k : Nat) : Int).toNat = k by omega, show ((u : Nat) : Int).toNat = u by omega, show (-(u : Int)).toNat = 0 by omega, show ((u : Int) + 1).toNat = u + 1 by omega, show (-((u : Int) + 1)).toNat = 0 by omega]
    rw [Int.pow_zero, Int.pow_zero, Int.one_mul, Int.mul_one, Int.one_mul]
    have a1 := Int.ofNat_le.mpr t1
    have a2 := Int.ofNat_lt.mpr t2
    rw [natPow, natPow] at a1 a2
    exact ⟨a1, a2⟩
  · obtain ⟨k, hk⟩ : ∃ k : Nat, e = -((k : Int) + 1) := ⟨(-e).toNat - 1, by omega⟩
    subst hk
    have t := tbAll_at tbM_all k (by omega)
    unfold tbM at t
    rw [Bool.and_eq_true] at t
    have t1 := Nat.le_of_ble_eq_true t.1
    have t2 : 10 ^ (((k + 1) * 315653 - 1) / 2 ^ 20) < 2 ^ (k + 1) := Nat.le_of_ble_eq_true t.2
    have ek : -((k : Int) + 1) * 315653 / 2 ^ 20 = -((((k + 1) * 315653 - 1) / 2 ^ 20 : Nat) : Int) - 1 := by omega
    rw [ek]
    generalize ((k + 1) * 315653 - 1) / 2 ^ 20 = u at *
    rw [show (-((k : Int) + 1)).toNat = 0 by omega, show (- -((k : Int) + 1)).toNat = k + 1 by omega, show (-(u : Int) - 1).toNat = 0 by omega, show (-(-(u : Int) - 1)).toNat = u + 1 by omega, show (-(u : Int) - 1 + 1).toNat = 0 by omega, show (-(-(u : Int) - 1 + 1)).toNat = u by omega]
    rw [Int.pow_zero, Int.pow_zero, Int.one_mul, Int.mul_one, Int.one_mul]
    have a1 := Int.ofNat_le.mpr t1
    have a2 := Int.ofNat_lt.mpr t2
    rw [natPow, natPow] at a1 a2
    exact ⟨a1, a2⟩
def F_tens_below : DSp := fun ds μ Gd => ∃ k : Int, ds = [.int k] ∧ k.natAbs < 2 ^ 20 ∧ Gd (.int (k * 315653 / 2 ^ 20)) μ
-- tens_below: slots 0=k; level 1; calls 
def t_tens_below : DTS :=
  dRet (dOp dShr (dOp dMul (dVar 0) (dC (.int 315653))) (dC (.int 20)))
theorem cnt_tens_below : ∀ ds μ Gd, F_tens_below ds μ Gd → ds.length = 1 := by
  rintro ds μ Gd ⟨a, rfl, _⟩; rfl
theorem ok_tens_below : ∀ ds μ Gd, F_tens_below ds μ Gd → t_tens_below { nx := fun _ μ' => Gd .non μ', rt := Gd } (startD 1 ds) μ := by
  rintro ds μ Gd ⟨k, rfl, hk, q⟩
  show t_tens_below _ [some (.int k)] _
  unfold t_tens_below
  walk_at "d"
  refine e_mulI (mul_ok (bd_small (x := k) 20 hk) (j := 20) (by decide)) ?_
  walk_at "d"
  refine e_shr (by decide) ?_
  exact q
def F_place_of : DSp := fun ds μ Gd => ∃ e : Int, ds = [.int e] ∧ -1300 ≤ e ∧ e ≤ 1300 ∧ ∀ t, IsDec t (2 ^ e.toNat) (2 ^ (-e).toNat) → Gd (.int t) μ
-- place_of: slots 0=exponent; level 2; calls tens_below
def t_place_of : DTS :=
  dRet (dCall F_tens_below (dCons (dVar 0) (dNil)))
theorem cnt_place_of : ∀ ds μ Gd, F_place_of ds μ Gd → ds.length = 1 := by
  rintro ds μ Gd ⟨a, rfl, _⟩; rfl
theorem ok_place_of : ∀ ds μ Gd, F_place_of ds μ Gd → t_place_of { nx := fun _ μ' => Gd .non μ', rt := Gd } (startD 1 ds) μ := by
  rintro ds μ Gd ⟨e, rfl, e0, e1, q⟩
  show t_place_of _ [some (.int e)] _
  unfold t_place_of
  walk_at "d"
  refine ⟨e, rfl, by omega, ?_⟩
  exact q _ (tens_dec e0 e1)
theorem place_bd {e t : Int} (e0 : -1300 ≤ e) (e1 : e ≤ 1300) (h : IsDec t (2 ^ e.toNat) (2 ^ (-e).toNat)) : -1400 ≤ t ∧ t ≤ 1400 := by
  have h1 := le10_top (two_pos _) (bd_pow (n := 1301) (by omega)) h.1
  have h2 := le10_low (two_pos _) (two_pos _) (bd_pow (n := 1301) (by omega)) h.2
  omega
def scN (e k : Int) : Int := 10 ^ (-k).toNat * 2 ^ (e - 1).toNat
def scD (e k : Int) : Int := 10 ^ k.toNat * 2 ^ (-(e - 1)).toNat
def F_scale_of : DSp := fun ds μ Gd => ∃ e : Int, ds = [.int e] ∧ -1290 ≤ e ∧ e ≤ 1290 ∧ ∀ t, IsDec t (2 ^ e.toNat) (2 ^ (-e).toNat) → Gd (.tup [.int (scN e t), .int (scD e t)]) μ
-- scale_of: slots 0=exponent 1=up 2=down 3=num 4=den; level 3; calls fraction_of, place_of, shifted
def t_scale_of : DTS :=
  dSeq (dAsg (dCall F_shifted (dCons (dC (.int 1)) (dCons (dOp dSub (dVar 0) (dC (.int 1))) (dNil)))) (dgSeq 2 (dgCons (dgName 1) (dgCons (dgName 2) (dgNil))))) (dSeq (dAsg (dCall F_fraction_of (dCons (dTup (dCons (dC (.int 1)) (dCons (dUn dNeg (dCall F_place_of (dCons (dVar 0) (dNil)))) (dNil)))) (dNil))) (dgSeq 2 (dgCons (dgName 3) (dgCons (dgName 4) (dgNil))))) (dRet (dTup (dCons (dOp dMul (dVar 3) (dVar 1)) (dCons (dOp dMul (dVar 4) (dVar 2)) (dNil))))))
theorem cnt_scale_of : ∀ ds μ Gd, F_scale_of ds μ Gd → ds.length = 1 := by
  rintro ds μ Gd ⟨a, rfl, _⟩; rfl
theorem ok_scale_of : ∀ ds μ Gd, F_scale_of ds μ Gd → t_scale_of { nx := fun _ μ' => Gd .non μ', rt := Gd } (startD 5 ds) μ := by
  rintro ds μ Gd ⟨e, rfl, e0, e1, q⟩
  show t_scale_of _ [some (.int e), none, none, none, none] _
  unfold t_scale_of
  walk_at "d"
  refine ⟨1, e - 1, rfl, bd_up (bd_small 1 (by decide)) (by decide), by omega, by omega, ?_⟩
  rw [Int.one_mul]
  walk_at "d"
  refine ⟨e, rfl, by omega, by omega, fun t ht => ?_⟩
  obtain ⟨t0, t1⟩ := place_bd (by omega) (by omega) ht
  walk_at "d"
  refine ⟨1, -t, rfl, bd_up (bd_small 1 (by decide)) (by decide), by omega, by omega, ?_⟩
  rw [Int.one_mul, show -(-t) = t by omega]
  walk_at "d"
  have b1 : Bd 1301 ((2 : Int) ^ (e - 1).toNat) := bd_pow (by omega)
  have b2 : Bd 1301 ((2 : Int) ^ (-(e - 1)).toNat) := bd_pow (by omega)
  refine e_mulI (mul_ok (pow10_bd _) b1 (by omega)) ?_
  walk_at "d"
  refine e_mulI (mul_ok (pow10_bd _) b2 (by omega)) ?_
  walk_at "d"
  exact q t ht
def IsP (e k : Int) : Prop := IsDec k (2 ^ e.toNat) (2 ^ (-e).toNat)
theorem sc_pos (e k : Int) : 0 < scN e k ∧ 0 < scD e k := ⟨Int.mul_pos (pow10_pos _) (two_pos _), Int.mul_pos (pow10_pos _) (two_pos _)⟩
theorem sc_bd {e k : Int} (e0 : -1200 ≤ e) (e1 : e ≤ 1200) (h : IsP e k) : Bd 1300 (scN e k) ∧ Bd 1300 (scD e k) := by
  obtain ⟨h1, h2⟩ := h
  have ten4 : (10 : Int) < 2 ^ 4 := by decide
  by_cases he : 0 ≤ e
  · have hk : 0 ≤ k := by
      refine Int.not_lt.mp fun w => h2 (le10_mono (two_pos _) (show k + 1 ≤ 0 by omega) ?_)
      unfold le10
      rw [show (-e).toNat = 0 by omega]
      have := two_pos e.toNat
      show (2 : Int) ^ 0 * 10 ^ 0 ≤ 2 ^ e.toNat * 10 ^ 0
      omega
    unfold le10 at h1
    rw [show (-e).toNat = 0 by omega, show (-k).toNat = 0 by omega, Int.pow_zero, Int.pow_zero, Int.one_mul, Int.mul_one] at h1
    have bk : Bd 1201 ((10 : Int) ^ k.toNat) := bd_le (Int.le_of_lt (pow10_pos _)) h1 (bd_pow (by omega))
    unfold scN scD
    rw [show (-k).toNat = 0 by omega, Int.pow_zero, Int.one_mul]
    exact ⟨bd_pow (by omega), bd_up (bd_mul bk (bd_pow (n := 2) (by omega))) (by decide)⟩
  · have hk : k < 0 := by
      refine Int.not_le.mp fun w => ?_
      have h1 := le10_mono (two_pos _) w h1
      unfold le10 at h1
      rw [show e.toNat = 0 by omega] at h1
      have h3 : (2 : Int) ^ 1 ≤ 2 ^ (-e).toNat := pow_le2 (by omega)
      have h1 : (2 : Int) ^ (-e).toNat * 1 ≤ 1 * 1 := h1
      omega
    unfold le10 at h2
    rw [show e.toNat = 0 by omega, show (k + 1).toNat = 0 by omega, Int.pow_zero, Int.pow_zero, Int.one_mul, Int.mul_one] at h2
    have bk : Bd 1201 ((10 : Int) ^ (-(k + 1)).toNat) := bd_le (Int.le_of_lt (pow10_pos _)) (show _ ≤ (2 : Int) ^ (-e).toNat by omega) (bd_pow (by omega))
    unfold scN scD
    rw [show (-k).toNat = (-(k + 1)).toNat + 1 by omega, Int.pow_succ, show k.toNat = 0 by omega, show (e - 1).toNat = 0 by omega, Int.pow_zero, Int.pow_zero, Int.mul_one, Int.one_mul]
    exact ⟨bd_up (bd_mul bk (j := 4) (by decide)) (by decide), bd_pow (by omega)⟩
def F_L_binary : DSp := fun ds μ Gd => ∃ m e : Int, ds = [.int m, .int e] ∧ Bd 5000 m ∧ -5000 ≤ e ∧ e ≤ 5000 ∧ Gd (.tup [.int (m * 2 ^ e.toNat), .int (2 ^ (-e).toNat)]) μ
-- _law_binary: slots 0=_law_m 1=_law_e; level 1; calls 
def t_L_binary : DTS :=
  dRet (dIf (dTest (dOp dGe (dVar 1) (dC (.int 0)))) (dTup (dCons (dOp dShl (dVar 0) (dVar 1)) (dCons (dC (.int 1)) (dNil)))) (dTup (dCons (dVar 0) (dCons (dOp dShl (dC (.int 1)) (dOp dSub (dC (.int 0)) (dVar 1))) (dNil)))))
theorem cnt_L_binary : ∀ ds μ Gd, F_L_binary ds μ Gd → ds.length = 2 := by
  rintro ds μ Gd ⟨a, b, rfl, _⟩; rfl
theorem ok_L_binary : ∀ ds μ Gd, F_L_binary ds μ Gd → t_L_binary { nx := fun _ μ' => Gd .non μ', rt := Gd } (startD 2 ds) μ := by
  rintro ds μ Gd ⟨m, e, rfl, bm, e0, e1, q⟩
  show t_L_binary _ [some (.int m), some (.int e)] _
  unfold t_L_binary
  walk_at "d"
  refine e_if (fun h => ?_) (fun h => ?_)
  · rw [show (-e).toNat = 0 by omega, Int.pow_zero] at q
    walk_at "d"
    refine e_shlN e.toNat (by omega) bm (by omega) ?_
    walk_at "d"
    exact q
  · rw [show e.toNat = 0 by omega, Int.pow_zero, Int.mul_one] at q
    walk_at "d"
    rw [show 0 - e = -e by omega]
    refine e_shlN (n := 2) (-e).toNat (by omega) (bd_small 2 (by decide)) (by omega) ?_
    rw [Int.one_mul]
    walk_at "d"
    exact q
def F_L_place : DSp := fun ds μ Gd => ∃ e : Int, ds = [.int e] ∧ -1200 ≤ e ∧ e ≤ 1200 ∧ ∀ k, IsP e k → Gd (.int k) μ
-- _law_place: slots 0=_law_exponent 1=_law_num 2=_law_den 3=_law_k; level 2; calls _law_binary
def t_L_place : DTS :=
  dSeq (dAsg (dCall F_L_binary (dCons (dC (.int 1)) (dCons (dVar 0) (dNil)))) (dgSeq 2 (dgCons (dgName 1) (dgCons (dgName 2) (dgNil))))) (dSeq (dAsg (dC (.int 0)) (dgName 3)) (dSeq (dWhile (dTest (dOp dGe (dVar 1) (dOp dMul (dVar 2) (dC (.int 10))))) (dPar 2 3 (dCons (dOp dMul (dVar 2) (dC (.int 10))) (dCons (dOp dAdd (dVar 3) (dC (.int 1))) (dNil))))) (dSeq (dWhile (dTest (dOp dLt (dVar 1) (dVar 2))) (dPar 1 3 (dCons (dOp dMul (dVar 1) (dC (.int 10))) (dCons (dOp dSub (dVar 3) (dC (.int 1))) (dNil))))) (dRet (dVar 3)))))
theorem cnt_L_place : ∀ ds μ Gd, F_L_place ds μ Gd → ds.length = 1 := by
  rintro ds μ Gd ⟨a, rfl, _⟩; rfl
theorem ten_up (x : Int) (t : Nat) : x * 10 ^ t * 10 = x * 10 ^ (t + 1) := by rw [Int.pow_succ, Int.mul_assoc]
theorem ok_L_place : ∀ ds μ Gd, F_L_place ds μ Gd → t_L_place { nx := fun _ μ' => Gd .non μ', rt := Gd } (startD 4 ds) μ := by
  rintro ds μ Gd ⟨e, rfl, e0, e1, q⟩
  show t_L_place _ [some (.int e), none, none, none] _
  unfold t_L_place
  walk_at "d"
  refine ⟨1, e, rfl, bd_up (bd_small 1 (by decide)) (by decide), by omega, by omega, ?_⟩
  rw [Int.one_mul]
  have n0 := two_pos e.toNat
  have d0 := two_pos (-e).toNat
  have bn : Bd 1201 ((2 : Int) ^ e.toNat) := bd_pow (by omega)
  have bd : Bd 1201 ((2 : Int) ^ (-e).toNat) := bd_pow (by omega)
  have q : ∀ k, IsDec k (2 ^ e.toNat) (2 ^ (-e).toNat) → Gd (.int k) μ := q
  generalize (2 : Int) ^ e.toNat = num at *
  generalize (2 : Int) ^ (-e).toNat = den at *
  walk_at "d"
  refine ⟨fun m σ μ' => ∃ t : Nat, σ = [some (.int e), some (.int num), some (.int (den * 10 ^ t)), some (.int t)] ∧ μ' = μ ∧ (t = 0 ∨ le10 t num den) ∧ m = 1300 - t, ⟨_, 0, by rw [Int.pow_zero, Int.mul_one]; rfl, rfl, .inl rfl, rfl⟩, ?_⟩
  rintro m σ μ' ⟨t, rfl, rfl, ht, rfl⟩
  have t1 : t < 1202 := by
    rcases ht with w | w
    · omega
    · have := le10_top d0 bn w; omega
  have bdt : Bd 6100 (den * 10 ^ t) := bd_up (bd_mul bd (pow10_bd t)) (by omega)
  walk_at "d"
  refine e_mulI (mul_ok bdt (j := 4) (by decide)) ?_
  walk_at "d"
  rw [ten_up]
  refine e_if (fun h => ?_) (fun h => ?_)
  · refine ⟨_, fun σ' μ' h => h, ?_⟩
    walk_at "d"
    refine e_mulI (mul_ok bdt (j := 4) (by decide)) ?_
    rw [ten_up]
    walk_at "d"
    have hl : le10 ((t + 1 : Nat) : Int) num den := by
      unfold le10
      rw [Int.toNat_natCast, show (-((t + 1 : Nat) : Int)).toNat = 0 by omega, Int.pow_zero, Int.mul_one]
      exact h
    have := le10_top d0 bn hl
    exact ⟨_, by omega, t + 1, rfl, rfl, .inr hl, rfl⟩
  · have hnt : ¬ le10 ((t : Int) + 1) num den := fun w => h (by
      unfold le10 at w
      rw [show ((t : Int) + 1).toNat = t + 1 by omega, show (-((t : Int) + 1)).toNat = 0 by omega, Int.pow_zero, Int.mul_one] at w
      exact w)
    walk_at "d"
    refine ⟨fun m σ μ'' => ∃ j : Nat, σ = [some (.int e), some (.int (num * 10 ^ j)), some (.int (den * 10 ^ t)), some (.int (t - j))] ∧ μ'' = μ' ∧ ¬ le10 ((t : Int) - j + 1) num den ∧ m = 7000 - j, ⟨_, 0, by rw [Int.pow_zero, Int.mul_one]; show _ = [_, _, _, some (D.int ((t : Int) - (0 : Nat)))]; rw [show (t : Int) - ((0 : Nat) : Int) = t by omega], rfl, by rw [show (t : Int) - ((0 : Nat) : Int) + 1 = t + 1 by omega]; exact hnt, rfl⟩, ?_⟩
    rintro m σ μ'' ⟨j, rfl, rfl, hj, rfl⟩
    have jb := le10_low n0 d0 bd hj
    have bnj : Bd 12000 (num * 10 ^ j) := bd_up (bd_mul bn (pow10_bd j)) (by omega)
    have hform : le10 ((t : Int) - j) num den ↔ den * 10 ^ t ≤ num * 10 ^ j := by
      rw [le10_shift j (by omega), show ((t : Int) - j + j).toNat = t by omega]
    walk_at "d"
    refine e_if (fun h2 => ?_) (fun h2 => ?_)
    · refine ⟨_, fun σ' μ' h => h, ?_⟩
      walk_at "d"
      refine e_mulI (mul_ok bnj (j := 4) (by decide)) ?_
      rw [ten_up]
      walk_at "d"
      have hn2 : ¬ le10 ((t : Int) - j) num den := fun w => by have := hform.mp w; omega
      have jb2 := le10_low n0 d0 bd hn2
      rw [show (t : Int) - j - 1 = t - ((j + 1 : Nat) : Int) by omega]
      exact ⟨_, by omega, j + 1, rfl, rfl, by rw [show (t : Int) - ((j + 1 : Nat) : Int) + 1 = t - j by omega]; exact hn2, rfl⟩
    · walk_at "d"
      exact q _ ⟨hform.mpr (by omega), hj⟩
def F_L_one : DSp := fun ds μ Gd => ∃ (l : List D) (N : Int), ds = [.box 0, .lst l] ∧ 0 < l.length ∧ l.length < 1000000000 ∧ DK N μ ∧ N + 1 < 1000000000000 ∧ ∀ d μ', d ∈ l → DK (N + 1) μ' → Gd d μ'
-- _law_one: slots 0=_law_deck_here 1=_law_items; level 2; calls _law_draw
def t_L_one : DTS :=
  dRet (dOp dIx (dVar 1) (dCall F_L_draw (dCons (dVar 0) (dCons (dCB dLen (dCons (dVar 1) (dNil))) (dNil)))))
theorem cnt_L_one : ∀ ds μ Gd, F_L_one ds μ Gd → ds.length = 2 := by
  rintro ds μ Gd ⟨i, k, rfl, _⟩; rfl
theorem ok_L_one : ∀ ds μ Gd, F_L_one ds μ Gd → t_L_one { nx := fun _ μ' => Gd .non μ', rt := Gd } (startD 2 ds) μ := by
  rintro ds μ Gd ⟨l, N, rfl, l0, l1, hk, hN, q⟩
  show t_L_one _ [some (.box 0), some (.lst l)] _
  unfold t_L_one
  walk_at "d"
  refine ⟨l.length, N, rfl, by omega, bd_up (bd_small 31 (by omega)) (by decide), hk, by omega, fun r μ1 r0 r1 hk1 => ?_⟩
  obtain ⟨d, e, hd⟩ := atI_mem (l := l) r0 r1
  exact e_ix rfl e (q d μ1 hd hk1)
def F_L_scale : DSp := fun ds μ Gd => ∃ e : Int, ds = [.int e] ∧ -1200 ≤ e ∧ e ≤ 1200 ∧ ∀ k, IsP e k → Gd (.tup [.int (scN e k), .int (scD e k)]) μ
-- _law_scale: slots 0=_law_exponent 1=_law_num 2=_law_den 3=_law_k; level 3; calls _law_binary, _law_place, _law_ten
def t_L_scale : DTS :=
  dSeq (dAsg (dCall F_L_binary (dCons (dC (.int 1)) (dCons (dOp dSub (dVar 0) (dC (.int 1))) (dNil)))) (dgSeq 2 (dgCons (dgName 1) (dgCons (dgName 2) (dgNil))))) (dSeq (dAsg (dCall F_L_place (dCons (dVar 0) (dNil))) (dgName 3)) (dRet (dIf (dTest (dOp dGe (dVar 3) (dC (.int 0)))) (dTup (dCons (dVar 1) (dCons (dOp dMul (dVar 2) (dCall F_L_ten (dCons (dVar 3) (dNil)))) (dNil)))) (dTup (dCons (dOp dMul (dVar 1) (dCall F_L_ten (dCons (dOp dSub (dC (.int 0)) (dVar 3)) (dNil)))) (dCons (dVar 2) (dNil)))))))
theorem cnt_L_scale : ∀ ds μ Gd, F_L_scale ds μ Gd → ds.length = 1 := by
  rintro ds μ Gd ⟨a, rfl, _⟩; rfl
theorem ok_L_scale : ∀ ds μ Gd, F_L_scale ds μ Gd → t_L_scale { nx := fun _ μ' => Gd .non μ', rt := Gd } (startD 4 ds) μ := by
  rintro ds μ Gd ⟨e, rfl, e0, e1, q⟩
  show t_L_scale _ [some (.int e), none, none, none] _
  unfold t_L_scale
  walk_at "d"
  refine ⟨1, e - 1, rfl, bd_up (bd_small 1 (by decide)) (by decide), by omega, by omega, ?_⟩
  rw [Int.one_mul]
  walk_at "d"
  refine ⟨e, rfl, e0, e1, fun k hk => ?_⟩
  obtain ⟨k0, k1⟩ := place_bd (by omega) (by omega) hk
  have q := q k hk
  unfold scN scD at q
  have b1 : Bd 1301 ((2 : Int) ^ (e - 1).toNat) := bd_pow (by omega)
  have b2 : Bd 1301 ((2 : Int) ^ (-(e - 1)).toNat) := bd_pow (by omega)
  walk_at "d"
  refine e_if (fun h => ?_) (fun h => ?_)
  · rw [show (-k).toNat = 0 by omega, Int.pow_zero, Int.one_mul] at q
    walk_at "d"
    refine ⟨k, rfl, by omega, by omega, ?_⟩
    refine e_mulI (mul_ok b2 (pow10_bd _) (by omega)) ?_
    walk_at "d"
    rw [Int.mul_comm (2 ^ (-(e - 1)).toNat)]
    exact q
  · rw [show k.toNat = 0 by omega, Int.pow_zero, Int.one_mul] at q
    walk_at "d"
    refine ⟨0 - k, rfl, by omega, by omega, ?_⟩
    rw [show 0 - k = -k by omega]
    refine e_mulI (mul_ok b1 (pow10_bd _) (by omega)) ?_
    walk_at "d"
    rw [Int.mul_comm (2 ^ (e - 1).toNat)]
    exact q
theorem bits_eq {g : Int} {b : Nat} (h0 : 2 ^ (b - 1) ≤ g) (h1 : g < 2 ^ b) (b0 : 0 < b) : Builtin.Int.intBits g = b := by
  have g0 : 0 < g := by have := two_pos (b - 1); omega
  have a := PyProof.Rows.intBits_le (to_bd (Int.le_of_lt g0) h1)
  obtain ⟨c1, c2⟩ := bits_le g0
  have c3 := bits_gt g
  have : (2 : Int) ^ (b - 1) < 2 ^ Builtin.Int.intBits g := by omega
  have := two_lt this
  omega
theorem cutH_mod {num den b : Int} (d0 : 0 < den) : cutH num den b = (if (!decide (num * 2 ^ (-cutS num den b).toNat % (den * 2 ^ (cutS num den b).toNat) = 0)) = true then 1 else 0) := by
  unfold cutH cutG
  have hp := Int.mul_pos d0 (two_pos (cutS num den b).toNat)
  rw [Int.mul_assoc]
  generalize den * 2 ^ (cutS num den b).toNat = D at *
  generalize num * 2 ^ (-cutS num den b).toNat = N at *
  have h1 := Int.mul_ediv_add_emod N D
  rw [Int.mul_comm] at h1
  by_cases h : N % D = 0
  · rw [if_pos (by omega), if_neg (by rw [decide_eq_true h]; decide)]
  · rw [if_neg (by omega), if_pos (by rw [decide_eq_false h]; rfl)]
def F_L_cut : DSp := fun ds μ Gd => ∃ num den b : Int, ds = [.int num, .int den, .int b] ∧ 0 < num ∧ 0 < den ∧ Bd 3000 num ∧ Bd 3000 den ∧ 1 ≤ b ∧ b ≤ 256 ∧ Gd (.tup [.int (cutG num den b), .int (cutS num den b), .int (cutH num den b)]) μ
-- _law_cut: slots 0=_law_num 1=_law_den 2=_law_bits 3=_law_s 4=_law_shift 5=_law_whole 6=_law_part; level 1; calls 
def t_L_cut : DTS :=
  dSeq (dAsg (dOp dSub (dOp dSub (dBits (dVar 0)) (dBits (dVar 1))) (dVar 2)) (dgName 3)) (dSeq (dFor (dItT (dTup (dCons (dVar 3) (dCons (dOp dAdd (dVar 3) (dC (.int 1))) (dNil))))) (dgName 4) (dSeq (dAsg (dIf (dTest (dOp dGe (dVar 4) (dC (.int 0)))) (dTup (dCons (dVar 0) (dCons (dOp dShl (dVar 1) (dVar 4)) (dNil)))) (dTup (dCons (dOp dShl (dVar 0) (dOp dSub (dC (.int 0)) (dVar 4))) (dCons (dVar 1) (dNil))))) (dgSeq 2 (dgCons (dgName 5) (dgCons (dgName 6) (dgNil))))) (dIfS (dTest (dOp dEq (dBits (dOp dFdiv (dVar 5) (dVar 6))) (dVar 2))) (dRet (dTup (dCons (dOp dFdiv (dVar 5) (dVar 6)) (dCons (dVar 4) (dCons (dCB dInt1 (dCons (dOp dNe (dOp dMod (dCB dInt1 (dCons (dVar 5) (dNil))) (dVar 6)) (dC (.int 0))) (dNil))) (dNil)))))) (dNext)))) (dRet (dC .non)))
theorem cnt_L_cut : ∀ ds μ Gd, F_L_cut ds μ Gd → ds.length = 3 := by
  rintro ds μ Gd ⟨a, b, c, rfl, _⟩; rfl
theorem ok_L_cut : ∀ ds μ Gd, F_L_cut ds μ Gd → t_L_cut { nx := fun _ μ' => Gd .non μ', rt := Gd } (startD 7 ds) μ := by
  rintro ds μ Gd ⟨num, den, b, rfl, n0, d0, bn, bd, b0, b1, q⟩
  show t_L_cut _ [some (.int num), some (.int den), some (.int b), none, none, none, none] _
  unfold t_L_cut
  have hb1 := PyProof.Rows.intBits_le bn
  have hb2 := PyProof.Rows.intBits_le bd
  have hcase : cutS num den b = (Builtin.Int.intBits num : Int) - (Builtin.Int.intBits den : Nat) - b ∨ cutS num den b = (Builtin.Int.intBits num : Int) - (Builtin.Int.intBits den : Nat) - b + 1 := by
    unfold cutS logF
    split
    · right; omega
    · left; omega
  have hs1 : cutS num den (b + 1) = cutS num den b - 1 := by unfold cutS; omega
  have g1 := cut_lo n0 d0 b0
  have g2 := cut_hi n0 d0 b0
  have g3 := cut_lo (b := b + 1) n0 d0 (by omega)
  have g4 := cut_hi (b := b + 1) n0 d0 (by omega)
  have hH := cutH_mod (num := num) (b := b) d0
  rw [hH] at q
  have bg : Builtin.Int.intBits (cutG num den b) = b.toNat := bits_eq (by rw [show b.toNat - 1 = (b - 1).toNat by omega]; exact g1) g2 (by omega)
  have bg2 : Builtin.Int.intBits (cutG num den (b + 1)) = b.toNat + 1 := bits_eq (by rw [show b.toNat + 1 - 1 = (b + 1 - 1).toNat by omega]; exact g3) (by rw [show b.toNat + 1 = (b + 1).toNat by omega]; exact g4) (by omega)
  unfold cutG at bg2
  rw [hs1] at bg2
  have hG : cutG num den b = num * 2 ^ (-cutS num den b).toNat / (den * 2 ^ (cutS num den b).toNat) := rfl
  rw [hG] at q bg
  clear hH hG g1 g2 g3 g4 hs1
  have s0 : -3300 ≤ cutS num den b ∧ cutS num den b ≤ 3300 := by
    rcases hcase with h | h <;> omega
  walk_at "d"
  generalize (Builtin.Int.intBits num : Int) - (Builtin.Int.intBits den : Nat) - b = s at *
  generalize cutS num den b = S at *
  refine loop_inv (fun i σ μ' => i ≤ 1 ∧ (i = 1 → S = s + 1) ∧ ∃ (z4 z5 z6 : Option D), σ = [some (.int num), some (.int den), some (.int b), some (.int s), z4, z5, z6] ∧ μ' = μ) _ 0 _ _ ⟨by omega, fun h => by omega, none, none, none, rfl, rfl⟩ ?_ ?_
  · rintro i x σ μ' K e ⟨hi, hS, z4, z5, z6, rfl, rfl⟩ hK
    rw [Nat.zero_add] at hi hS hK
    have hx : ∃ y : Int, x = .int y ∧ -3400 ≤ y ∧ y ≤ 3400 ∧ (y = S ∨ (y = S - 1 ∧ i = 0 ∧ S = s + 1)) := by
      rcases (show i = 0 ∨ i = 1 by omega) with rfl | rfl
      · cases e
        exact ⟨s, rfl, by omega, by omega, by omega⟩
      · cases e
        exact ⟨s + 1, rfl, by omega, by omega, .inl (hS rfl).symm⟩
    obtain ⟨y, rfl, y0, y1, hy⟩ := hx
    have b1 : Bd 3402 ((2 : Int) ^ y.toNat) := bd_pow (by omega)
    have b2 : Bd 3402 ((2 : Int) ^ (-y).toNat) := bd_pow (by omega)
    have hp : 0 < den * 2 ^ y.toNat := Int.mul_pos d0 (two_pos _)
    have bD : Bd 6402 (den * 2 ^ y.toNat) := bd_mul bd b1
    have qq : y = S → Gd (.tup [.int (num * 2 ^ (-y).toNat / (den * 2 ^ y.toNat)), .int y, .int (if (!decide (num * 2 ^ (-y).toNat % (den * 2 ^ y.toNat) = 0)) = true then 1 else 0)]) μ' := fun h => by subst h; exact q
    have hbits : (y = S ∧ (Builtin.Int.intBits (num * 2 ^ (-y).toNat / (den * 2 ^ y.toNat)) : Int) = b) ∨ (i = 0 ∧ S = s + 1 ∧ (Builtin.Int.intBits (num * 2 ^ (-y).toNat / (den * 2 ^ y.toNat)) : Int) = b + 1) := by
      rcases hy with h | ⟨h, h2, h3⟩
      · exact .inl ⟨h, by rw [h, bg]; omega⟩
      · exact .inr ⟨h2, h3, by rw [h, bg2]; omega⟩
    clear bg bg2 q hcase
    walk_at "d"
    refine e_if (fun h => ?_) (fun h => ?_)
    · rw [show (-y).toNat = 0 by omega, Int.pow_zero, Int.mul_one] at qq hbits
      walk_at "d"
      refine e_shlN y.toNat (by omega) bd (by omega) ?_
      generalize den * 2 ^ y.toNat = D at *
      walk_at "d"
      refine e_fdiv (div_ok hp bD) ?_
      walk_at "d"
      rcases hbits with ⟨h1, h2⟩ | ⟨h1, h2, h3⟩
      · refine e_ifT (decide_eq_true h2) ?_
        walk_at "d"
        refine e_fdiv (div_ok hp bD) ?_
        walk_at "d"
        exact qq h1
      · refine e_ifF (decide_eq_false (by omega)) ?_
        walk_at "d"
        exact hK _ _ ⟨by omega, fun _ => h2, _, _, _, rfl, rfl⟩
    · rw [show y.toNat = 0 by omega, Int.pow_zero, Int.mul_one] at qq hbits hp bD
      walk_at "d"
      rw [show 0 - y = -y by omega]
      refine e_shlN (-y).toNat (by omega) bn (by omega) ?_
      generalize hN' : num * 2 ^ (-y).toNat = N at *
      walk_at "d"
      refine e_fdiv (div_ok hp bD) ?_
      walk_at "d"
      rcases hbits with ⟨h1, h2⟩ | ⟨h1, h2, h3⟩
      · refine e_ifT (decide_eq_true h2) ?_
        walk_at "d"
        refine e_fdiv (div_ok hp bD) ?_
        walk_at "d"
        exact qq h1
      · refine e_ifF (decide_eq_false (by omega)) ?_
        walk_at "d"
        exact hK _ _ ⟨by omega, fun _ => h2, _, _, _, rfl, rfl⟩
  · rintro σ μ' ⟨hi, _⟩
    exact absurd hi (by simp)
/-! ### plain decimals -/
def plF : Nat → Int → Int → Int × Int
  | 0, d, q => (d, q)
  | n + 1, d, q => if d % 10 = 0 then plF n (d / 10) (q + 1) else (d, q)
def plainD (d q : Int) : Int × Int := if d = 0 then (0, 0) else plF d.natAbs d q
theorem plF_bd : ∀ (n : Nat) (d q : Int), 0 ≤ d → 0 ≤ (plF n d q).1 ∧ (plF n d q).1 ≤ d ∧ q ≤ (plF n d q).2 ∧ (plF n d q).2 ≤ q + n
  | 0, d, q, h => by unfold plF; dsimp only; omega
  | n + 1, d, q, h => by
    unfold plF
    split
    · have := plF_bd n (d / 10) (q + 1) (by omega)
      omega
    · dsimp only; omega
theorem plain_bd {d q : Int} {k : Nat} (d0 : 0 ≤ d) (bd : Bd k d) (bq : Bd k q) : Bd (k + 1) (plainD d q).1 ∧ Bd (k + 1) (plainD d q).2 := by
  have e := two_pow_s k
  have bd : d.natAbs < 2 ^ k := bd
  have bq : q.natAbs < 2 ^ k := bq
  unfold plainD
  split
  · exact ⟨by show (0 : Int).natAbs < _; omega, by show (0 : Int).natAbs < _; omega⟩
  · have := plF_bd d.natAbs d q d0
    exact ⟨by show Int.natAbs _ < _; omega, by show Int.natAbs _ < _; omega⟩
def plD (x : Int × Int) : D := .tup [.int x.1, .int x.2]
def F_plain_decimal : DSp := fun ds μ Gd => ∃ d q : Int, ds = [.tup [.int d, .int q]] ∧ 0 ≤ d ∧ Gd (plD (plainD d q)) μ
-- plain_decimal: slots 0=decimal 1=d 2=q; level 1; calls 
def t_plain_decimal : DTS :=
  dSeq (dAsg (dVar 0) (dgSeq 2 (dgCons (dgName 1) (dgCons (dgName 2) (dgNil))))) (dSeq (dIfS (dTest (dOp dEq (dVar 1) (dC (.int 0)))) (dRet (dTup (dCons (dC (.int 0)) (dCons (dC (.int 0)) (dNil))))) (dNext)) (dSeq (dWhile (dTest (dOp dEq (dOp dMod (dVar 1) (dC (.int 10))) (dC (.int 0)))) (dSeq (dAsg (dOp dFdiv (dVar 1) (dC (.int 10))) (dgName 1)) (dAsg (dOp dAdd (dVar 2) (dC (.int 1))) (dgName 2)))) (dRet (dTup (dCons (dVar 1) (dCons (dVar 2) (dNil)))))))
theorem cnt_plain_decimal : ∀ ds μ Gd, F_plain_decimal ds μ Gd → ds.length = 1 := by
  rintro ds μ Gd ⟨a, b, rfl, _⟩; rfl
theorem ok_plain_decimal : ∀ ds μ Gd, F_plain_decimal ds μ Gd → t_plain_decimal { nx := fun _ μ' => Gd .non μ', rt := Gd } (startD 3 ds) μ := by
  rintro ds μ Gd ⟨d, q0, rfl, d0, q⟩
  show t_plain_decimal _ [some (.tup [.int d, .int q0]), none, none] _
  unfold t_plain_decimal
  unfold plainD at q
  walk_at "d"
  refine e_if (fun h => ?_) (fun h => ?_)
  · rw [if_pos h] at q
    walk_at "d"
    exact q
  rw [if_neg h] at q
  walk_at "d"
  obtain ⟨R, hR⟩ : ∃ R, plF d.natAbs d q0 = R := ⟨_, rfl⟩
  rw [hR] at q
  refine ⟨fun m σ μ' => ∃ d' q' : Int, σ = [some (.tup [.int d, .int q0]), some (.int d'), some (.int q')] ∧ μ' = μ ∧ 0 < d' ∧ d'.natAbs ≤ m ∧ plF m d' q' = R, ⟨d.natAbs, d, q0, rfl, rfl, by omega, Nat.le_refl _, hR⟩, ?_⟩
  rintro m σ μ' ⟨d', q', rfl, rfl, h1, h2, h3⟩
  obtain ⟨m, rfl⟩ : ∃ k, m = k + 1 := ⟨m - 1, by omega⟩
  unfold plF at h3
  walk_at "d"
  refine e_if (fun h => ?_) (fun h => ?_)
  · rw [if_pos h] at h3
    refine ⟨_, fun σ' μ' h => h, ?_⟩
    walk_at "d"
    refine e_fdiv (div_ok (k := 5) (by decide) (by decide)) ?_
    walk_at "d"
    exact ⟨m, by omega, _, _, rfl, rfl, by omega, by omega, h3⟩
  · rw [if_neg h] at h3
    rw [← h3] at q
    walk_at "d"
    exact q
/-! ### fast numbers -/
def spanF (P : Nat) (lo hi e : Int) : Int × Int :=
  if e < lo ∨ e > hi then (0, 0) else if e > lo then ((if (2 : Int) ^ P + 1 > 11 then 2 ^ P + 1 else 11), if (2 : Int) ^ (P + 1) > (if (2 : Int) ^ P + 1 > 11 then 2 ^ P + 1 else 11) then 2 ^ (P + 1) else (if (2 : Int) ^ P + 1 > 11 then 2 ^ P + 1 else 11))
  else (11, if (2 : Int) ^ (P + 1) > 11 then 2 ^ (P + 1) else 11)
def F_fast_span : DSp := fun ds μ Gd => ∃ (P : Nat) (lo hi e : Int), ds = [fm P lo hi, .int e] ∧ okf P lo hi ∧ Gd (.tup [.int (spanF P lo hi e).1, .int (spanF P lo hi e).2]) μ
-- fast_span: slots 0=form 1=exponent 2=p 3=least 4=greatest 5=low; level 1; calls 
def t_fast_span : DTS :=
  dSeq (dAsg (dVar 0) (dgSeq 3 (dgCons (dgName 2) (dgCons (dgName 3) (dgCons (dgName 4) (dgNil)))))) (dSeq (dIfS (dOrT (dTest (dOp dLt (dVar 1) (dVar 3))) (dTest (dOp dGt (dVar 1) (dVar 4)))) (dRet (dTup (dCons (dC (.int 0)) (dCons (dC (.int 0)) (dNil))))) (dNext)) (dSeq (dAsg (dC (.int 11)) (dgName 5)) (dSeq (dIfS (dTest (dOp dGt (dVar 1) (dVar 3))) (dAsg (dCB dMax2 (dCons (dVar 5) (dCons (dOp dAdd (dOp dShl (dC (.int 1)) (dOp dSub (dVar 2) (dC (.int 1)))) (dC (.int 1))) (dNil)))) (dgName 5)) (dNext)) (dRet (dTup (dCons (dVar 5) (dCons (dCB dMax2 (dCons (dVar 5) (dCons (dOp dShl (dC (.int 1)) (dVar 2)) (dNil)))) (dNil))))))))
theorem cnt_fast_span : ∀ ds μ Gd, F_fast_span ds μ Gd → ds.length = 2 := by
  rintro ds μ Gd ⟨a, b, c, d, rfl, _⟩; rfl
theorem ok_fast_span : ∀ ds μ Gd, F_fast_span ds μ Gd → t_fast_span { nx := fun _ μ' => Gd .non μ', rt := Gd } (startD 6 ds) μ := by
  rintro ds μ Gd ⟨P, lo, hi, e, rfl, ⟨o1, o2, o3, o4⟩, q⟩
  show t_fast_span _ [some (.tup [.int (P + 1), .int lo, .int hi]), some (.int e), none, none, none, none] _
  unfold t_fast_span
  unfold spanF at q
  walk_at "d"
  refine e_if (fun h => ?_) (fun h => ?_)
  · rw [if_pos (.inl h)] at q
    walk_at "d"
    exact q
  walk_at "d"
  refine e_if (fun h2 => ?_) (fun h2 => ?_)
  · rw [if_pos (.inr h2)] at q
    walk_at "d"
    exact q
  rw [if_neg (fun z => Or.elim z h h2)] at q
  walk_at "d"
  refine e_if (fun h3 => ?_) (fun h3 => ?_)
  · rw [if_pos h3] at q
    walk_at "d"
    refine e_shlN (n := 2) P (by omega) (bd_small 2 (by decide)) (by omega) ?_
    rw [Int.one_mul]
    walk_at "d"
    refine e_shlN (n := 2) (P + 1) (by omega) (bd_small 2 (by decide)) (by omega) ?_
    rw [Int.one_mul]
    walk_at "d"
    exact q
  · rw [if_neg h3] at q
    walk_at "d"
    refine e_shlN (n := 2) (P + 1) (by omega) (bd_small 2 (by decide)) (by omega) ?_
    rw [Int.one_mul]
    walk_at "d"
    exact q
def isFast (P : Nat) (lo hi e c : Int) : Prop := c ≠ countF P lo hi ∧ partE P lo c = e ∧ (spanF P lo hi e).1 ≤ partM P c ∧ partM P c < (spanF P lo hi e).2
instance (P : Nat) (lo hi e c : Int) : Decidable (isFast P lo hi e c) := inferInstanceAs (Decidable (_ ∧ _ ∧ _ ∧ _))
def F_fast_number : DSp := fun ds μ Gd => ∃ (P : Nat) (lo hi e g s h c : Int), ds = [fm P lo hi, .tup [.int e, .int g, .int s, .int h], .int c] ∧ okf P lo hi ∧ 0 ≤ c ∧ c ≤ countF P lo hi ∧ Gd (if isFast P lo hi e c then .int (partM P c) else .non) μ
-- fast_number: slots 0=form 1=row 2=code 3=m 4=e 5=low 6=high; level 4; calls count_of, fast_span, value_of
def t_fast_number : DTS :=
  dSeq (dIfS (dTest (dOp dEq (dVar 2) (dCall F_count_of (dCons (dVar 0) (dNil))))) (dRet (dC .non)) (dNext)) (dSeq (dAsg (dCall F_value_of (dCons (dVar 0) (dCons (dVar 2) (dNil)))) (dgSeq 2 (dgCons (dgName 3) (dgCons (dgName 4) (dgNil))))) (dSeq (dAsg (dCall F_fast_span (dCons (dVar 0) (dCons (dOp dIx (dVar 1) (dC (.int 0))) (dNil)))) (dgSeq 2 (dgCons (dgName 5) (dgCons (dgName 6) (dgNil))))) (dRet (dIf (dAndT (dTest (dOp dEq (dVar 4) (dOp dIx (dVar 1) (dC (.int 0))))) (dTest (dChain dLe dLt (dVar 5) (dVar 3) (dVar 6)))) (dVar 3) (dC .non)))))
theorem cnt_fast_number : ∀ ds μ Gd, F_fast_number ds μ Gd → ds.length = 3 := by
  rintro ds μ Gd ⟨a, b, c, d, e, f, g, h, rfl, _⟩; rfl
theorem ok_fast_number : ∀ ds μ Gd, F_fast_number ds μ Gd → t_fast_number { nx := fun _ μ' => Gd .non μ', rt := Gd } (startD 7 ds) μ := by
  rintro ds μ Gd ⟨P, lo, hi, e, g, s, h, c, rfl, o, c0, c1, q⟩
  show t_fast_number _ [some (fm P lo hi), some (.tup [.int e, .int g, .int s, .int h]), some (.int c), none, none, none, none] _
  unfold t_fast_number
  walk_at "d"
  refine ⟨P, lo, hi, rfl, o, ?_⟩
  walk_at "d"
  refine e_if (fun z => ?_) (fun z => ?_)
  · rw [if_neg (show ¬ isFast P lo hi e c from fun w => w.1 z)] at q
    walk_at "d"
    exact q
  walk_at "d"
  refine ⟨P, lo, hi, c, rfl, o, c0, by omega, ?_⟩
  walk_at "d"
  refine ⟨P, lo, hi, e, rfl, o, ?_⟩
  walk_at "d"
  refine e_if (fun z2 => ?_) (fun z2 => ?_)
  · walk_at "d"
    refine e_if (fun z3 => ?_) (fun z3 => ?_)
    · walk_at "d"
      refine e_if (fun z4 => ?_) (fun z4 => ?_)
      · rw [if_pos (show isFast P lo hi e c from ⟨z, z2, z3, z4⟩)] at q
        walk_at "d"
        exact q
      · rw [if_neg (show ¬ isFast P lo hi e c from fun w => z4 w.2.2.2)] at q
        walk_at "d"
        exact q
    · rw [if_neg (show ¬ isFast P lo hi e c from fun w => z3 w.2.2.1)] at q
      walk_at "d"
      exact q
  · rw [if_neg (show ¬ isFast P lo hi e c from fun w => z2 w.2.1)] at q
    walk_at "d"
    exact q
theorem pow_shift' {A B : Int} {x y x' y' : Nat} (h : x + y' = x' + y) : A * 2 ^ x ≤ B * 2 ^ y ↔ A * 2 ^ x' ≤ B * 2 ^ y' := by
  rw [← pow_cancel x y y', ← pow_cancel x' y' y, h, Nat.add_comm y y']
theorem low_lt' {P : Nat} {lo hi num den : Int} (d0 : 0 < den) (h : lowC P lo hi num den < countF P lo hi - 1) : posN P lo hi num den < (lowC P lo hi num den + 1) * posD P lo hi num den := by
  have hd := posD_pos (P := P) (lo := lo) (hi := hi) (num := num) d0
  have dm := Int.mul_ediv_add_emod (posN P lo hi num den) (posD P lo hi num den)
  have r1 := Int.emod_lt_of_pos (posN P lo hi num den) hd
  unfold lowC at h ⊢
  by_cases z : posN P lo hi num den / posD P lo hi num den < countF P lo hi - 1
  · rw [if_pos z] at h ⊢
    rw [Int.add_mul, Int.one_mul, Int.mul_comm]
    omega
  · rw [if_neg z] at h; omega
theorem low_eq' {P : Nat} {lo hi num den c : Int} (d0 : 0 < den) (c1 : c < countF P lo hi) (h1 : c * posD P lo hi num den ≤ posN P lo hi num den) (h2 : posN P lo hi num den < (c + 1) * posD P lo hi num den ∨ c = countF P lo hi - 1) : lowC P lo hi num den = c := by
  have a := low_ge d0 c1 h1
  rcases h2 with h2 | h2
  · have : posN P lo hi num den / posD P lo hi num den < c + 1 := Int.ediv_lt_of_lt_mul (posD_pos d0) h2
    unfold lowC at a ⊢
    split at a <;> rename_i z
    · rw [if_pos z]; omega
    · rw [if_neg z]; omega
  · unfold lowC at a ⊢
    split at a <;> rename_i z
    · rw [if_pos z]; omega
    · rw [if_neg z]; omega
/-! ### what is read half way between two numbers -/
theorem mid_eq (M E : Int) : (2 * M + 1) * (2 ^ (-(E - 1)).toNat * 2 ^ E.toNat) = 2 * ((2 * M + 1) * 2 ^ (E - 1).toNat * 2 ^ (-E).toNat) := by
  have e : (2 : Int) ^ (-(E - 1)).toNat * 2 ^ E.toNat = 2 * (2 ^ (E - 1).toNat * 2 ^ (-E).toNat) := by
    rw [← Int.pow_add, ← Int.pow_add, Int.mul_comm 2, ← Int.pow_succ]
    congr 1
    omega
  rw [e]
  grind
theorem mid_read {P : Nat} {lo hi c num den : Int} (hlh : lo ≤ hi) (n0 : 0 ≤ num) (d0 : 0 < den) (c1 : c < countF P lo hi) (h : (2 * c + 1) * posD P lo hi num den = 2 * posN P lo hi num den) : readF P lo hi .even num den = c + c % 2 ∧ readF P lo hi .away num den = c + 1 := by
  have hD := posD_pos (P := P) (lo := lo) (hi := hi) (num := num) d0
  have e1 : (2 * c + 1) * posD P lo hi num den = 2 * (c * posD P lo hi num den) + posD P lo hi num den := by grind
  have e2 : (c + 1) * posD P lo hi num den = c * posD P lo hi num den + posD P lo hi num den := by grind
  rw [e1] at h
  have hl : lowC P lo hi num den = c := low_eq' d0 c1 (by omega) (.inl (by rw [e2]; omega))
  have rc := read_char (P := P) hlh n0 d0
  unfold isE isR at rc
  rw [hl, e1, e2] at rc
  rcases rc with ⟨h1, _⟩ | ⟨_, _, _, _, _, r4, r5⟩
  · omega
  · rw [r4, r5, if_neg (by omega), if_pos (by omega), if_neg (by omega)]
    exact ⟨rfl, rfl⟩
theorem end_up {P : Nat} {lo hi c : Int} (hlh : lo ≤ hi) (c0 : 0 ≤ c) (c1 : c < countF P lo hi) :
    readF P lo hi .even ((2 * partM P c + 1) * 2 ^ (partE P lo c - 1).toNat) (2 ^ (-(partE P lo c - 1)).toNat) = c + c % 2 ∧ readF P lo hi .away ((2 * partM P c + 1) * 2 ^ (partE P lo c - 1).toNat) (2 ^ (-(partE P lo c - 1)).toNat) = c + 1 := by
  obtain ⟨hcan, hsum⟩ := part_can (P := P) (lo := lo) hlh c0 c1
  have d0 := two_pos (-(partE P lo c - 1)).toNat
  have n0 : 0 ≤ (2 * partM P c + 1) * (2 : Int) ^ (partE P lo c - 1).toNat := Int.mul_nonneg (by have := hcan.1; omega) (Int.le_of_lt (two_pos _))
  have k := code_key (t := 1) hlh n0 d0 c0 c1 (by decide) (by decide)
  have m := mid_eq (partM P c) (partE P lo c)
  exact mid_read hlh n0 d0 c1 (Int.le_antisymm (k.1.mpr (Int.le_of_eq m)) (k.2.mpr (Int.le_of_eq m.symm)))
theorem end_low {P : Nat} {lo hi c : Int} (hlh : lo ≤ hi) (c1 : c < countF P lo hi) (m0 : 1 ≤ partM P c) (c0 : 0 ≤ c) (hm : 2 ^ P < partM P c ∨ partE P lo c = lo) :
    readF P lo hi .even ((2 * partM P c - 1) * 2 ^ (partE P lo c - 1).toNat) (2 ^ (-(partE P lo c - 1)).toNat) = c - 1 + (c - 1) % 2 ∧ readF P lo hi .away ((2 * partM P c - 1) * 2 ^ (partE P lo c - 1).toNat) (2 ^ (-(partE P lo c - 1)).toNat) = c := by
  obtain ⟨hcan, hsum⟩ := part_can (P := P) (lo := lo) hlh c0 c1
  obtain ⟨a, b, l, hh, cc⟩ := id hcan
  have hcan' : can P lo hi (partM P c - 1) (partE P lo c) := ⟨by omega, by omega, l, hh, hm.imp (fun z => by omega) id⟩
  obtain ⟨u1, u2⟩ := can_uniq hcan' (show _ = c - 1 by omega)
  have hp : 0 ≤ (partE P lo c - lo) * 2 ^ P := Int.mul_nonneg (by omega) (Int.le_of_lt (two_pos _))
  have h := end_up (P := P) (lo := lo) (c := c - 1) hlh (by omega) (by omega)
  rw [u1, u2, show 2 * (partM P c - 1) + 1 = 2 * partM P c - 1 by omega, show c - 1 + 1 = c by omega] at h
  exact h
/-! ### what a print row tells -/
def topN (g s h : Int) : Int := (g + h) * 2 ^ s.toNat
def topD (s : Int) : Int := 2 ^ (-s).toNat
def okpr (g s h : Int) : Prop := 0 < g ∧ Bd 260 g ∧ -3000 ≤ s ∧ s ≤ 1320 ∧ 0 ≤ h ∧ h ≤ 3
def F_top_of : DSp := fun ds μ Gd => ∃ e g s h : Int, ds = [.tup [.int e, .int g, .int s, .int h]] ∧ okpr g s h ∧ Gd (.tup [.int (topN g s h), .int (topD s)]) μ
-- top_of: slots 0=row 1=_ 2=g 3=s 4=h; level 2; calls shifted
def t_top_of : DTS :=
  dSeq (dAsg (dVar 0) (dgSeq 4 (dgCons (dgName 1) (dgCons (dgName 2) (dgCons (dgName 3) (dgCons (dgName 4) (dgNil))))))) (dRet (dCall F_shifted (dCons (dOp dAdd (dVar 2) (dVar 4)) (dCons (dVar 3) (dNil)))))
theorem cnt_top_of : ∀ ds μ Gd, F_top_of ds μ Gd → ds.length = 1 := by
  rintro ds μ Gd ⟨a, b, c, d, rfl, _⟩; rfl
theorem bd_gh {g s h : Int} (o : okpr g s h) : Bd 261 (g + h) := by
  obtain ⟨g0, bg, s0, s1, h0, h1⟩ := o
  exact bd_add (k := 260) bg (bd_up (bd_small 3 (by omega)) (by decide))
theorem ok_top_of : ∀ ds μ Gd, F_top_of ds μ Gd → t_top_of { nx := fun _ μ' => Gd .non μ', rt := Gd } (startD 5 ds) μ := by
  rintro ds μ Gd ⟨e, g, s, h, rfl, o, q⟩
  show t_top_of _ [some (.tup [.int e, .int g, .int s, .int h]), none, none, none, none] _
  unfold t_top_of
  have b := bd_gh o
  obtain ⟨g0, bg, s0, s1, h0, h1⟩ := o
  walk_at "d"
  exact ⟨g + h, s, rfl, bd_up b (by decide), by omega, by omega, q⟩
theorem bd_top {g s h : Int} (o : okpr g s h) : Bd 1600 (topN g s h) ∧ Bd 3001 (topD s) ∧ 0 < topD s ∧ 0 ≤ topN g s h := by
  have b := bd_gh o
  obtain ⟨g0, bg, s0, s1, h0, h1⟩ := o
  exact ⟨bd_up (bd_mul b (bd_pow (n := 1321) (by omega))) (by decide), bd_pow (by omega), two_pos _, Int.mul_nonneg (by omega) (Int.le_of_lt (two_pos _))⟩
def F_end_of : DSp := fun ds μ Gd => ∃ (P : Nat) (lo hi e half c : Int) (w : Way), ds = [fm P lo hi, .str w.s, .int e, .int half, .int c] ∧ okf P lo hi ∧ -1200 ≤ e ∧ e ≤ 1200 ∧ 0 ≤ half ∧ Bd 200 half ∧
  ∀ k, IsP e k → Gd (.tup [.bl (decide (half * scN e k % scD e k = 0)), .bl (decide (readF P lo hi w (half * 2 ^ (e - 1).toNat) (2 ^ (-(e - 1)).toNat) = c))]) μ
-- end_of: slots 0=form 1=way 2=exponent 3=half 4=code 5=num 6=den 7=up 8=down; level 5; calls read_fraction, scale_of, shifted
def t_end_of : DTS :=
  dSeq (dAsg (dCall F_scale_of (dCons (dVar 2) (dNil))) (dgSeq 2 (dgCons (dgName 5) (dgCons (dgName 6) (dgNil))))) (dSeq (dAsg (dCall F_shifted (dCons (dVar 3) (dCons (dOp dSub (dVar 2) (dC (.int 1))) (dNil)))) (dgSeq 2 (dgCons (dgName 7) (dgCons (dgName 8) (dgNil))))) (dRet (dTup (dCons (dOp dEq (dOp dMod (dOp dMul (dVar 3) (dVar 5)) (dVar 6)) (dC (.int 0))) (dCons (dOp dEq (dCall F_read_fraction (dCons (dVar 0) (dCons (dVar 1) (dCons (dVar 7) (dCons (dVar 8) (dNil)))))) (dVar 4)) (dNil))))))
theorem cnt_end_of : ∀ ds μ Gd, F_end_of ds μ Gd → ds.length = 5 := by
  rintro ds μ Gd ⟨a, b, c, d, e, f, g, rfl, _⟩; rfl
theorem ok_end_of : ∀ ds μ Gd, F_end_of ds μ Gd → t_end_of { nx := fun _ μ' => Gd .non μ', rt := Gd } (startD 9 ds) μ := by
  rintro ds μ Gd ⟨P, lo, hi, e, half, c, w, rfl, o, e0, e1, h0, bh, q⟩
  show t_end_of _ [some (fm P lo hi), some (.str w.s), some (.int e), some (.int half), some (.int c), none, none, none, none] _
  unfold t_end_of
  walk_at "d"
  refine ⟨e, rfl, by omega, by omega, fun k hk => ?_⟩
  obtain ⟨b1, b2⟩ := sc_bd e0 e1 hk
  obtain ⟨p1, p2⟩ := sc_pos e k
  walk_at "d"
  refine ⟨half, e - 1, rfl, bd_up bh (by decide), by omega, by omega, ?_⟩
  walk_at "d"
  refine e_mulI (mul_ok bh b1) ?_
  walk_at "d"
  refine ⟨P, lo, hi, _, _, w, rfl, o, ⟨Int.mul_nonneg h0 (Int.le_of_lt (two_pos _)), two_pos _, bd_up (bd_mul bh (bd_pow (n := 1300) (by omega))) (by decide), bd_pow (by omega)⟩, ?_⟩
  walk_at "d"
  exact q k hk
def nearN (m e k B : Int) : Int := if 4 * m * scN e k % (2 * scD e k) = scD e k then B / 2 + B / 2 % 2 else (B + 1) / 2
def F_nearest_by : DSp := fun ds μ Gd => ∃ e m B : Int, ds = [.int e, .int m, .int B] ∧ -1200 ≤ e ∧ e ≤ 1200 ∧ Bd 200 m ∧ ∀ k, IsP e k → Gd (.int (nearN m e k B)) μ
-- nearest_by: slots 0=exponent 1=m 2=doubled 3=num 4=den; level 4; calls scale_of
def t_nearest_by : DTS :=
  dSeq (dAsg (dCall F_scale_of (dCons (dVar 0) (dNil))) (dgSeq 2 (dgCons (dgName 3) (dgCons (dgName 4) (dgNil))))) (dSeq (dIfS (dTest (dOp dEq (dOp dMod (dOp dMul (dOp dMul (dC (.int 4)) (dVar 1)) (dVar 3)) (dOp dMul (dC (.int 2)) (dVar 4))) (dVar 4))) (dRet (dOp dAdd (dOp dFdiv (dVar 2) (dC (.int 2))) (dOp dMod (dOp dFdiv (dVar 2) (dC (.int 2))) (dC (.int 2))))) (dNext)) (dRet (dOp dFdiv (dOp dAdd (dVar 2) (dC (.int 1))) (dC (.int 2)))))
theorem cnt_nearest_by : ∀ ds μ Gd, F_nearest_by ds μ Gd → ds.length = 3 := by
  rintro ds μ Gd ⟨a, b, c, rfl, _⟩; rfl
theorem ok_nearest_by : ∀ ds μ Gd, F_nearest_by ds μ Gd → t_nearest_by { nx := fun _ μ' => Gd .non μ', rt := Gd } (startD 5 ds) μ := by
  rintro ds μ Gd ⟨e, m, B, rfl, e0, e1, bm, q⟩
  show t_nearest_by _ [some (.int e), some (.int m), some (.int B), none, none] _
  unfold t_nearest_by
  unfold nearN at q
  walk_at "d"
  refine ⟨e, rfl, by omega, by omega, fun k hk => ?_⟩
  obtain ⟨b1, b2⟩ := sc_bd e0 e1 hk
  obtain ⟨p1, p2⟩ := sc_pos e k
  have q := q k hk
  walk_at "d"
  refine e_mulI (mul_ok (i := 3) (by decide) bm) ?_
  walk_at "d"
  refine e_mulI (mul_ok (bd_mul (i := 3) (by decide) bm) b1) ?_
  walk_at "d"
  refine e_mulI (mul_ok (i := 2) (by decide) b2) ?_
  walk_at "d"
  refine e_if (fun z => ?_) (fun z => ?_)
  · rw [if_pos z] at q
    walk_at "d"
    refine e_fdiv (div_ok (k := 5) (by decide) (by decide)) ?_
    walk_at "d"
    refine e_fdiv (div_ok (k := 5) (by decide) (by decide)) ?_
    walk_at "d"
    exact q
  · rw [if_neg z] at q
    walk_at "d"
    refine e_fdiv (div_ok (k := 5) (by decide) (by decide)) ?_
    exact q
def dueB (z1 z2 lr ur : Bool) (A N C : Int) : Int :=
  if (if z2 = true ∧ ur = false then C - 1 else C) - (if z2 = true ∧ ur = false then C - 1 else C) % 10 < (if z1 = true ∧ lr = true then A else A + 1) then N
  else (if z2 = true ∧ ur = false then C - 1 else C) - (if z2 = true ∧ ur = false then C - 1 else C) % 10
def dueN (m e k : Int) (lr ur : Bool) (A B C : Int) : Int := dueB (decide ((2 * m - 1) * scN e k % scD e k = 0)) (decide ((2 * m + 1) * scN e k % scD e k = 0)) lr ur A (nearN m e k B) C
theorem due_nn {m e k A B C : Int} {lr ur : Bool} (a0 : 0 ≤ A) (b0 : 0 ≤ B) : 0 ≤ dueN m e k lr ur A B C := by
  have h2 : 0 ≤ nearN m e k B := by unfold nearN; split <;> omega
  unfold dueN dueB
  repeat' split
  all_goals omega
def lrF : Way → Int → Bool
  | .away, _ => true
  | _, c => decide (c % 2 = 0)
def urF : Way → Int → Bool
  | .away, _ => false
  | _, c => decide (c % 2 = 0)
def isEA : Way → Bool
  | .even => true
  | .away => true
  | _ => false
def fastD (P : Nat) (lo hi e g s h c k : Int) (w : Way) : D :=
  if isFast P lo hi e c ∧ isEA w = true then plD (plainD (dueN (partM P c) e k (lrF w c) (urF w c) ((2 * partM P c - 1) * topN g s h / topD s) (4 * partM P c * topN g s h / topD s) ((2 * partM P c + 1) * topN g s h / topD s)) k) else .non
/-- what a fast number is -/
theorem fast_facts {P : Nat} {lo hi e c : Int} (hlh : lo ≤ hi) (c0 : 0 ≤ c) (c1 : c ≤ countF P lo hi) (h : isFast P lo hi e c) : c < countF P lo hi ∧ partE P lo c = e ∧ lo ≤ e ∧ e ≤ hi ∧ 11 ≤ partM P c ∧ partM P c < 2 ^ (P + 1) ∧ (2 ^ P < partM P c ∨ e = lo) := by
  obtain ⟨h1, h2, h3, h4⟩ := h
  have hlt : c < countF P lo hi := by omega
  obtain ⟨hcan, hsum⟩ := part_can (P := P) (lo := lo) hlh c0 hlt
  obtain ⟨m0, m1, l, hh, cc⟩ := hcan
  rw [h2] at l hh
  unfold spanF at h3 h4
  rw [if_neg (by omega)] at h3 h4
  refine ⟨hlt, h2, l, hh, ?_, m1, ?_⟩
  · split at h3
    · dsimp only at h3
      split at h3 <;> omega
    · dsimp only at h3; omega
  · split at h3
    · dsimp only at h3
      split at h3 <;> omega
    · omega
theorem low_is {P : Nat} {lo hi c : Int} {w : Way} (hlh : lo ≤ hi) (c0 : 0 ≤ c) (c1 : c < countF P lo hi) (m0 : 1 ≤ partM P c) (hm : 2 ^ P < partM P c ∨ partE P lo c = lo) (hw : isEA w = true) :
    decide (readF P lo hi w ((2 * partM P c - 1) * 2 ^ (partE P lo c - 1).toNat) (2 ^ (-(partE P lo c - 1)).toNat) = c) = lrF w c := by
  obtain ⟨h1, h2⟩ := end_low hlh c1 m0 c0 hm
  have m2 := Int.emod_two_eq c
  cases w with
  | even => rw [h1]; unfold lrF; exact decide_eq_decide.mpr ⟨fun _ => by omega, fun _ => by omega⟩
  | away => rw [h2]; exact decide_eq_true rfl
  | zero => cases hw
  | out => cases hw
  | odd => cases hw
theorem up_is {P : Nat} {lo hi c : Int} {w : Way} (hlh : lo ≤ hi) (c0 : 0 ≤ c) (c1 : c < countF P lo hi) (hw : isEA w = true) :
    decide (readF P lo hi w ((2 * partM P c + 1) * 2 ^ (partE P lo c - 1).toNat) (2 ^ (-(partE P lo c - 1)).toNat) = c) = urF w c := by
  obtain ⟨h1, h2⟩ := end_up (P := P) (lo := lo) hlh c0 c1
  have m2 := Int.emod_two_eq c
  cases w with
  | even => rw [h1]; unfold urF; exact decide_eq_decide.mpr ⟨fun _ => by omega, fun _ => by omega⟩
  | away => rw [h2]; exact decide_eq_false (by omega)
  | zero => cases hw
  | out => cases hw
  | odd => cases hw
def F_fast_shortest : DSp := fun ds μ Gd => ∃ (P : Nat) (lo hi e g s h c : Int) (w : Way), ds = [fm P lo hi, .str w.s, .tup [.int e, .int g, .int s, .int h], .int c] ∧ okf P lo hi ∧ -1200 ≤ e ∧ e ≤ 1200 ∧ okpr g s h ∧ 0 ≤ c ∧ c ≤ countF P lo hi ∧
  (¬ (isFast P lo hi e c ∧ isEA w = true) → Gd .non μ) ∧ ∀ k, IsP e k → Gd (fastD P lo hi e g s h c k w) μ
-- fast_shortest: slots 0=form 1=way 2=row 3=code 4=m 5=exponent 6=num 7=den 8=first 9=last 10=is_whole 11=is_read 12=n; level 6; calls end_of, fast_number, nearest_by, place_of, plain_decimal, top_of
def t_fast_shortest : DTS :=
  dSeq (dAsg (dCall F_fast_number (dCons (dVar 0) (dCons (dVar 2) (dCons (dVar 3) (dNil))))) (dgName 4)) (dSeq (dIfS (dOrT (dTest (dOp (dIn true) (dVar 1) (dTup (dCons (dC (.str (PySem.Str.ofString "even"))) (dCons (dC (.str (PySem.Str.ofString "away"))) (dNil)))))) (dTest (dOp dIsN (dVar 4) (dC .non)))) (dRet (dC .non)) (dNext)) (dSeq (dAsg (dOp dIx (dVar 2) (dC (.int 0))) (dgName 5)) (dSeq (dAsg (dCall F_top_of (dCons (dVar 2) (dNil))) (dgSeq 2 (dgCons (dgName 6) (dgCons (dgName 7) (dgNil))))) (dSeq (dAsg (dOp dAdd (dOp dFdiv (dOp dMul (dOp dSub (dOp dMul (dC (.int 2)) (dVar 4)) (dC (.int 1))) (dVar 6)) (dVar 7)) (dC (.int 1))) (dgName 8)) (dSeq (dAsg (dOp dFdiv (dOp dMul (dOp dAdd (dOp dMul (dC (.int 2)) (dVar 4)) (dC (.int 1))) (dVar 6)) (dVar 7)) (dgName 9)) (dSeq (dAsg (dCall F_end_of (dCons (dVar 0) (dCons (dVar 1) (dCons (dVar 5) (dCons (dOp dSub (dOp dMul (dC (.int 2)) (dVar 4)) (dC (.int 1))) (dCons (dVar 3) (dNil))))))) (dgSeq 2 (dgCons (dgName 10) (dgCons (dgName 11) (dgNil))))) (dSeq (dIfS (dAndT (dTest (dVar 10)) (dTest (dVar 11))) (dAsg (dOp dSub (dVar 8) (dC (.int 1))) (dgName 8)) (dNext)) (dSeq (dAsg (dCall F_end_of (dCons (dVar 0) (dCons (dVar 1) (dCons (dVar 5) (dCons (dOp dAdd (dOp dMul (dC (.int 2)) (dVar 4)) (dC (.int 1))) (dCons (dVar 3) (dNil))))))) (dgSeq 2 (dgCons (dgName 10) (dgCons (dgName 11) (dgNil))))) (dSeq (dIfS (dAndT (dTest (dVar 10)) (dNotT (dTest (dVar 11)))) (dAsg (dOp dSub (dVar 9) (dC (.int 1))) (dgName 9)) (dNext)) (dSeq (dAsg (dOp dSub (dVar 9) (dOp dMod (dVar 9) (dC (.int 10)))) (dgName 12)) (dSeq (dIfS (dTest (dOp dLt (dVar 12) (dVar 8))) (dAsg (dCall F_nearest_by (dCons (dVar 5) (dCons (dVar 4) (dCons (dOp dFdiv (dOp dMul (dOp dMul (dC (.int 4)) (dVar 4)) (dVar 6)) (dVar 7)) (dNil))))) (dgName 12)) (dNext)) (dRet (dCall F_plain_decimal (dCons (dTup (dCons (dVar 12) (dCons (dCall F_place_of (dCons (dVar 5) (dNil))) (dNil)))) (dNil)))))))))))))))
theorem cnt_fast_shortest : ∀ ds μ Gd, F_fast_shortest ds μ Gd → ds.length = 4 := by
  rintro ds μ Gd ⟨a, b, c, d, e, f, g, h, i, rfl, _⟩; rfl
theorem isP_uniq {e k k' : Int} (h : IsP e k) (h' : IsP e k') : k = k' := dec_uniq (two_pos _) h h'
theorem ok_fast_shortest : ∀ ds μ Gd, F_fast_shortest ds μ Gd → t_fast_shortest { nx := fun _ μ' => Gd .non μ', rt := Gd } (startD 13 ds) μ := by
  rintro ds μ Gd ⟨P, lo, hi, e, g, s, h, c, w, rfl, o, e0, e1, og, c0, c1, qn, q⟩
  show t_fast_shortest _ [some (fm P lo hi), some (.str w.s), some (.tup [.int e, .int g, .int s, .int h]), some (.int c), none, none, none, none, none, none, none, none, none] _
  unfold t_fast_shortest
  walk_at "d"
  refine ⟨P, lo, hi, e, g, s, h, c, rfl, o, c0, c1, ?_⟩
  walk_at "d"
  have hin : (!inD (.str w.s) [.str (PySem.Str.ofString "even"), .str (PySem.Str.ofString "away")]) = !isEA w := by cases w <;> decide +kernel
  rw [hin]
  by_cases hw : isEA w = true
  · refine e_ifF (by rw [hw]; rfl) ?_
    by_cases hf : isFast P lo hi e c
    · obtain ⟨f1, f2, f3, f4, f5, f6, f7⟩ := fast_facts o.2.2.1 c0 c1 hf
      have q : ∀ k, IsP e k → Gd (plD (plainD (dueN (partM P c) e k (lrF w c) (urF w c) ((2 * partM P c - 1) * topN g s h / topD s) (4 * partM P c * topN g s h / topD s) ((2 * partM P c + 1) * topN g s h / topD s)) k)) μ := fun k hk => by
        have := q k hk
        unfold fastD at this
        rw [if_pos ⟨hf, hw⟩] at this
        exact this
      have hlow := low_is (w := w) o.2.2.1 c0 f1 (by omega) (by rw [f2]; exact f7) hw
      have hup := up_is (w := w) o.2.2.1 c0 f1 hw
      rw [f2] at hlow hup
      obtain ⟨bt, bd, d0, t0⟩ := bd_top og
      have bm : Bd 130 (partM P c) := bd_up (to_bd (k := 128) (by omega) (Int.lt_of_lt_of_le f6 (pow_le2 (by have := o.1; omega)))) (by decide)
      generalize partM P c = m at *
      rw [if_pos hf]
      have b1 : Bd 133 (2 * m - 1) := bd_sub (k := 132) (bd_mul (i := 2) (by decide) bm) (bd_small 132 (by decide))
      have b2 : Bd 133 (2 * m + 1) := bd_add (k := 132) (bd_mul (i := 2) (by decide) bm) (bd_small 132 (by decide))
      have b4 : Bd 133 (4 * m) := bd_mul (i := 3) (by decide) bm
      walk_at "d"
      refine ⟨e, g, s, h, rfl, og, ?_⟩
      generalize topN g s h = tn at *
      generalize topD s = td at *
      walk_at "d"
      refine e_mulI (mul_ok (i := 2) (by decide) bm) ?_
      walk_at "d"
      refine e_mulI (mul_ok b1 bt) ?_
      walk_at "d"
      refine e_fdiv (div_ok d0 bd) ?_
      walk_at "d"
      refine e_mulI (mul_ok (i := 2) (by decide) bm) ?_
      walk_at "d"
      refine e_mulI (mul_ok b2 bt) ?_
      walk_at "d"
      refine e_fdiv (div_ok d0 bd) ?_
      have a0 : 0 ≤ (2 * m - 1) * tn / td := Int.ediv_nonneg (Int.mul_nonneg (by omega) t0) (Int.le_of_lt d0)
      have bb0 : 0 ≤ 4 * m * tn / td := Int.ediv_nonneg (Int.mul_nonneg (by omega) t0) (Int.le_of_lt d0)
      generalize hA : (2 * m - 1) * tn / td = A at *
      generalize hC : (2 * m + 1) * tn / td = C at *
      walk_at "d"
      refine e_mulI (mul_ok (i := 2) (by decide) bm) ?_
      walk_at "d"
      refine ⟨P, lo, hi, e, 2 * m - 1, c, w, rfl, o, e0, e1, by omega, bd_up b1 (by decide), fun k hk => ?_⟩
      rw [hlow]
      have q := q k hk
      have nn := due_nn (m := m) (e := e) (k := k) (C := C) (lr := lrF w c) (ur := urF w c) a0 bb0
      unfold dueN at q nn
      generalize decide ((2 * m - 1) * scN e k % scD e k = 0) = z1 at *
      generalize lrF w c = lr at *
      walk_at "d"
      cases z1 <;> cases lr
      all_goals
        (try rw [if_neg Bool.false_ne_true])
        (try rw [if_pos rfl])
        (try rw [if_neg Bool.false_ne_true])
        (try rw [if_pos rfl])
        walk_at "d"
        refine e_mulI (mul_ok (i := 2) (by decide) bm) ?_
        walk_at "d"
        refine ⟨P, lo, hi, e, 2 * m + 1, c, w, rfl, o, e0, e1, by omega, bd_up b2 (by decide), fun k2 hk2 => ?_⟩
        obtain rfl := isP_uniq hk hk2
        rw [hup]
        generalize decide ((2 * m + 1) * scN e k % scD e k = 0) = z2 at *
        generalize urF w c = ur at *
        walk_at "d"
        cases z2 <;> cases ur
        all_goals
          walk_at "d"
          unfold dueB at q nn
          simp only [reduceCtorEq, and_self, and_true, and_false, true_and, false_and, if_true, if_false] at q nn
          refine e_if (fun z => ?_) (fun z => ?_)
          · rw [if_pos (by omega)] at q nn
            walk_at "d"
            refine e_mulI (mul_ok (i := 3) (by decide) bm) ?_
            walk_at "d"
            refine e_mulI (mul_ok b4 bt) ?_
            walk_at "d"
            refine e_fdiv (div_ok d0 bd) ?_
            walk_at "d"
            refine ⟨e, m, _, rfl, e0, e1, bd_up bm (by decide), fun k3 hk3 => ?_⟩
            obtain rfl := isP_uniq hk hk3
            walk_at "d"
            refine ⟨e, rfl, by omega, by omega, fun k4 hk4 => ?_⟩
            obtain rfl := isP_uniq hk hk4
            walk_at "d"
            exact ⟨_, _, rfl, nn, q⟩
          · rw [if_neg (by omega)] at q nn
            walk_at "d"
            refine ⟨e, rfl, by omega, by omega, fun k4 hk4 => ?_⟩
            obtain rfl := isP_uniq hk hk4
            walk_at "d"
            exact ⟨_, _, rfl, nn, q⟩
    · rw [if_neg hf]
      walk_at "d"
      exact qn (fun z => hf z.1)
  · refine e_ifT (by simpa using hw) ?_
    walk_at "d"
    exact qn (fun z => hw z.2)
def F_L_top : DSp := fun ds μ Gd => ∃ e g s h : Int, ds = [.tup [.int e, .int g, .int s, .int h]] ∧ okpr g s h ∧ Gd (.tup [.int (topN g s h), .int (topD s)]) μ
-- _law_top: slots 0=_law_row_here; level 2; calls _law_binary
def t_L_top : DTS :=
  dRet (dCall F_L_binary (dCons (dOp dAdd (dOp dIx (dVar 0) (dC (.int 1))) (dOp dIx (dVar 0) (dC (.int 3)))) (dCons (dOp dIx (dVar 0) (dC (.int 2))) (dNil))))
theorem cnt_L_top : ∀ ds μ Gd, F_L_top ds μ Gd → ds.length = 1 := by
  rintro ds μ Gd ⟨a, b, c, d, rfl, _⟩; rfl
theorem ok_L_top : ∀ ds μ Gd, F_L_top ds μ Gd → t_L_top { nx := fun _ μ' => Gd .non μ', rt := Gd } (startD 1 ds) μ := by
  rintro ds μ Gd ⟨e, g, s, h, rfl, o, q⟩
  show t_L_top _ [some (.tup [.int e, .int g, .int s, .int h])] _
  unfold t_L_top
  have b := bd_gh o
  obtain ⟨g0, bg, s0, s1, h0, h1⟩ := o
  walk_at "d"
  exact ⟨g + h, s, rfl, bd_up b (by decide), by omega, by omega, q⟩
def quo (m n d : Int) : D := .lst [.int ((2 * m - 1) * n / d), .int (4 * m * n / d), .int ((2 * m + 1) * n / d)]
def F_L_quotients : DSp := fun ds μ Gd => ∃ m n d : Int, ds = [.int m, .tup [.int n, .int d]] ∧ Bd 130 m ∧ Bd 1600 n ∧ Bd 3001 d ∧ 0 < d ∧ Gd (quo m n d) μ
-- _law_quotients: slots 0=_law_m 1=_law_value 2=_law_num 3=_law_den; level 1; calls 
def t_L_quotients : DTS :=
  dSeq (dAsg (dVar 1) (dgSeq 2 (dgCons (dgName 2) (dgCons (dgName 3) (dgNil))))) (dRet (dLst (dCons (dOp dFdiv (dOp dMul (dOp dSub (dOp dMul (dC (.int 2)) (dVar 0)) (dC (.int 1))) (dVar 2)) (dVar 3)) (dCons (dOp dFdiv (dOp dMul (dOp dMul (dC (.int 4)) (dVar 0)) (dVar 2)) (dVar 3)) (dCons (dOp dFdiv (dOp dMul (dOp dAdd (dOp dMul (dC (.int 2)) (dVar 0)) (dC (.int 1))) (dVar 2)) (dVar 3)) (dNil))))))
theorem cnt_L_quotients : ∀ ds μ Gd, F_L_quotients ds μ Gd → ds.length = 2 := by
  rintro ds μ Gd ⟨a, b, c, rfl, _⟩; rfl
theorem ok_L_quotients : ∀ ds μ Gd, F_L_quotients ds μ Gd → t_L_quotients { nx := fun _ μ' => Gd .non μ', rt := Gd } (startD 4 ds) μ := by
  rintro ds μ Gd ⟨m, n, d, rfl, bm, bn, bd, d0, q⟩
  show t_L_quotients _ [some (.int m), some (.tup [.int n, .int d]), none, none] _
  unfold t_L_quotients
  have b1 : Bd 133 (2 * m - 1) := bd_sub (k := 132) (bd_mul (i := 2) (by decide) bm) (bd_small 132 (by decide))
  have b2 : Bd 133 (2 * m + 1) := bd_add (k := 132) (bd_mul (i := 2) (by decide) bm) (bd_small 132 (by decide))
  have b4 : Bd 133 (4 * m) := bd_mul (i := 3) (by decide) bm
  walk_at "d"
  refine e_mulI (mul_ok (i := 2) (by decide) bm) ?_
  walk_at "d"
  refine e_mulI (mul_ok b1 bn) ?_
  walk_at "d"
  refine e_fdiv (div_ok d0 bd) ?_
  walk_at "d"
  refine e_mulI (mul_ok (i := 3) (by decide) bm) ?_
  walk_at "d"
  refine e_mulI (mul_ok b4 bn) ?_
  walk_at "d"
  refine e_fdiv (div_ok d0 bd) ?_
  walk_at "d"
  refine e_mulI (mul_ok (i := 2) (by decide) bm) ?_
  walk_at "d"
  refine e_mulI (mul_ok b2 bn) ?_
  walk_at "d"
  refine e_fdiv (div_ok d0 bd) ?_
  walk_at "d"
  exact q
def inFast (P : Nat) (lo hi e m : Int) : Prop := lo ≤ e ∧ e ≤ hi ∧ 11 ≤ m ∧ m < 2 ^ (P + 1) ∧ (e = lo ∨ 2 ^ P < m)
instance (P : Nat) (lo hi e m : Int) : Decidable (inFast P lo hi e m) := inferInstanceAs (Decidable (_ ∧ _ ∧ _ ∧ _ ∧ _))
def F_L_fast : DSp := fun ds μ Gd => ∃ (P : Nat) (lo hi e : Int), ds = [fm P lo hi, .int e] ∧ P ≤ 8 ∧ ∀ l : List D, l.all flD = true → (∀ m : Int, inD (.int m) l = decide (inFast P lo hi e m)) → Gd (.lst l) μ
-- _law_fast: slots 0=_law_form_here 1=_law_exponent 2=_law_p 3=_law_low 4=_law_high 5=_law_m; level 1; calls 
def t_L_fast : DTS :=
  dSeq (dAsg (dVar 0) (dgSeq 3 (dgCons (dgName 2) (dgCons (dgName 3) (dgCons (dgName 4) (dgNil)))))) (dSeq (dIfS (dNotT (dTest (dChain dLe dLe (dVar 3) (dVar 1) (dVar 4)))) (dRet (dLst (dNil))) (dNext)) (dRet (dLc (dRngW (dCons (dC (.int 11)) (dCons (dOp dShl (dC (.int 1)) (dVar 2)) (dNil)))) (dgName 5) (dOrT (dTest (dOp dEq (dVar 1) (dVar 3))) (dTest (dOp dGt (dVar 5) (dOp dShl (dC (.int 1)) (dOp dSub (dVar 2) (dC (.int 1))))))) (dVar 5) [5])))
theorem cnt_L_fast : ∀ ds μ Gd, F_L_fast ds μ Gd → ds.length = 2 := by
  rintro ds μ Gd ⟨a, b, c, d, rfl, _⟩; rfl
theorem rng_at8 {lo : Int} {n i : Nat} {x : D} (h : (rngD lo n)[i]? = some x) : i < n ∧ x = .int (lo + i) := by
  have hi := (List.getElem?_eq_some_iff.mp h).1
  rw [rngD_len] at hi
  unfold rngD at h
  rw [List.getElem?_map, List.getElem?_range hi] at h
  exact ⟨hi, (Option.some.inj h).symm⟩
theorem in_app (m y : Int) (l : List D) : inD (.int m) (l ++ [.int y]) = (inD (.int m) l || decide (y = m)) := by
  unfold inD
  rw [List.any_append]
  congr 1
  show ((eqV (V.int y) (V.int m)) || false) = _
  rw [Bool.or_false]
  show (y == m) = _
  rw [Bool.beq_eq_decide_eq]
theorem ok_L_fast : ∀ ds μ Gd, F_L_fast ds μ Gd → t_L_fast { nx := fun _ μ' => Gd .non μ', rt := Gd } (startD 6 ds) μ := by
  rintro ds μ Gd ⟨P, lo, hi, e, rfl, hP, q⟩
  show t_L_fast _ [some (.tup [.int (P + 1), .int lo, .int hi]), some (.int e), none, none, none, none] _
  unfold t_L_fast
  walk_at "d"
  have no : ¬ (lo ≤ e ∧ e ≤ hi) → Gd (.lst []) μ := fun h => q [] rfl fun m => by
    rw [decide_eq_false (fun z => h ⟨z.1, z.2.1⟩)]; rfl
  refine e_if (fun h1 => ?_) (fun h1 => ?_)
  · walk_at "d"
    by_cases h2 : e ≤ hi
    · walk_at "d"
      refine e_shlN (n := 2) (P + 1) (by omega) (bd_small 2 (by decide)) (by omega) ?_
      rw [Int.one_mul]
      walk_at "d"
      have hp8 : (2 : Int) ^ (P + 1) ≤ 2 ^ 9 := pow_le2 (by omega)
      have hp0 := two_pos (P + 1)
      refine lc_inv (fun i acc μ' => μ' = μ ∧ acc.length ≤ i ∧ acc.all flD = true ∧ ∀ m : Int, inD (.int m) acc = decide (11 ≤ m ∧ m < 11 + (i : Int) ∧ (e = lo ∨ 2 ^ P < m))) _ 0 [] _ ⟨rfl, Nat.le_refl _, rfl, fun m => by rw [decide_eq_false (by omega)]; rfl⟩ ?_ ?_
      · rintro i x acc μ' K ex ⟨rfl, hl, hf, hm⟩ hK
        obtain ⟨hi', rfl⟩ := rng_at8 ex
        rw [Nat.zero_add] at hm hK hl
        walk_at "d"
        have step : (e = lo ∨ 2 ^ P < 11 + (i : Int)) → acc.length < sizeLine ∧ K (acc ++ [.int (11 + (i : Int))]) μ' := fun hc => ⟨by rw [sizeLine_eq]; omega, hK _ _ ⟨rfl, by rw [List.length_append]; show acc.length + 1 ≤ _; omega, by rw [List.all_append, hf]; rfl, fun m => by
          rw [in_app, hm, ← Bool.decide_or]
          refine decide_eq_decide.mpr ⟨fun z => ?_, fun z => ?_⟩
          · rcases z with z | z
            · exact ⟨z.1, by omega, z.2.2⟩
            · subst z; exact ⟨by omega, by omega, hc⟩
          · by_cases w : 11 + (i : Int) = m
            · exact .inr w
            · exact .inl ⟨z.1, by omega, z.2.2⟩⟩⟩
        have skip : ¬ (e = lo ∨ 2 ^ P < 11 + (i : Int)) → K acc μ' := fun hc => hK _ _ ⟨rfl, by omega, hf, fun m => by
          rw [hm]
          refine decide_eq_decide.mpr ⟨fun z => ⟨z.1, by omega, z.2.2⟩, fun z => ⟨z.1, ?_, z.2.2⟩⟩
          refine Int.not_le.mp fun w => hc ?_
          have : m = 11 + (i : Int) := by omega
          rw [← this]; exact z.2.2⟩
        refine e_if (fun h3 => ?_) (fun h3 => ?_)
        · walk_at "d"
          exact (step (.inl h3)).2
        · walk_at "d"
          refine e_shlN (n := 2) P (by omega) (bd_small 2 (by decide)) (by omega) ?_
          rw [Int.one_mul]
          walk_at "d"
          refine e_if (fun h4 => ?_) (fun h4 => ?_)
          · walk_at "d"
            exact (step (.inr h4)).2
          · exact skip (fun z => z.elim h3 h4)
      · rintro acc μ' ⟨rfl, hl, hf, hm⟩
        walk_at "d"
        refine q _ hf fun m => ?_
        rw [hm, rngD_len]
        unfold inFast
        exact decide_eq_decide.mpr ⟨fun z => ⟨h1, h2, z.1, by omega, z.2.2⟩, fun z => ⟨z.2.2.1, by omega, z.2.2.2.2⟩⟩
    · walk_at "d"
      exact no (fun z => h2 z.2)
  · walk_at "d"
    exact no (fun z => h1 z.1)
def F_L_plain : DSp := fun ds μ Gd => ∃ d q : Int, ds = [.int d, .int q] ∧ 0 ≤ d ∧ Gd (plD (plainD d q)) μ
-- _law_plain: slots 0=_law_d 1=_law_q; level 1; calls 
def t_L_plain : DTS :=
  dSeq (dIfS (dTest (dOp dEq (dVar 0) (dC (.int 0)))) (dRet (dTup (dCons (dC (.int 0)) (dCons (dC (.int 0)) (dNil))))) (dNext)) (dSeq (dWhile (dTest (dOp dEq (dOp dMod (dCB dInt1 (dCons (dVar 0) (dNil))) (dC (.int 10))) (dC (.int 0)))) (dPar 0 1 (dCons (dOp dFdiv (dVar 0) (dC (.int 10))) (dCons (dOp dAdd (dVar 1) (dC (.int 1))) (dNil))))) (dRet (dTup (dCons (dVar 0) (dCons (dVar 1) (dNil))))))
theorem cnt_L_plain : ∀ ds μ Gd, F_L_plain ds μ Gd → ds.length = 2 := by
  rintro ds μ Gd ⟨a, b, rfl, _⟩; rfl
theorem ok_L_plain : ∀ ds μ Gd, F_L_plain ds μ Gd → t_L_plain { nx := fun _ μ' => Gd .non μ', rt := Gd } (startD 2 ds) μ := by
  rintro ds μ Gd ⟨d, q0, rfl, d0, q⟩
  show t_L_plain _ [some (.int d), some (.int q0)] _
  unfold t_L_plain
  unfold plainD at q
  walk_at "d"
  refine e_if (fun h => ?_) (fun h => ?_)
  · rw [if_pos h] at q
    walk_at "d"
    exact q
  rw [if_neg h] at q
  walk_at "d"
  obtain ⟨R, hR⟩ : ∃ R, plF d.natAbs d q0 = R := ⟨_, rfl⟩
  rw [hR] at q
  refine ⟨fun m σ μ' => ∃ d' q' : Int, σ = [some (.int d'), some (.int q')] ∧ μ' = μ ∧ 0 < d' ∧ d'.natAbs ≤ m ∧ plF m d' q' = R, ⟨d.natAbs, d, q0, rfl, rfl, by omega, Nat.le_refl _, hR⟩, ?_⟩
  rintro m σ μ' ⟨d', q', rfl, rfl, h1, h2, h3⟩
  obtain ⟨m, rfl⟩ : ∃ k, m = k + 1 := ⟨m - 1, by omega⟩
  unfold plF at h3
  walk_at "d"
  refine e_if (fun h => ?_) (fun h => ?_)
  · rw [if_pos h] at h3
    refine ⟨_, fun σ' μ' h => h, ?_⟩
    walk_at "d"
    refine e_fdiv (div_ok (k := 5) (by decide) (by decide)) ?_
    walk_at "d"
    exact ⟨m, by omega, _, _, rfl, rfl, by omega, by omega, h3⟩
  · rw [if_neg h] at h3
    rw [← h3] at q
    walk_at "d"
    exact q
theorem tie_iff {X D : Int} (hD : 0 < D) : X % (2 * D) = D ↔ (X % D = 0 ∧ X / D % 2 = 1) := by
  have h1 := Int.mul_ediv_add_emod X (2 * D)
  have h2 := Int.emod_nonneg X (show 2 * D ≠ 0 by omega)
  have h3 := Int.emod_lt_of_pos X (show 0 < 2 * D by omega)
  generalize X % (2 * D) = r at *
  generalize X / (2 * D) = f at *
  constructor
  · intro h
    have e : X = D * (2 * f + 1) := by grind
    rw [e, Int.mul_emod_right, Int.mul_ediv_cancel_left _ (by omega)]
    exact ⟨rfl, by omega⟩
  · rintro ⟨a, b⟩
    have h4 := Int.mul_ediv_add_emod X D
    rw [a, Int.add_zero] at h4
    generalize X / D = w at *
    obtain ⟨v, hv⟩ : ∃ v, w = 2 * v + 1 := ⟨w / 2, by omega⟩
    have e : 2 * D * f + r = 2 * D * v + D := by rw [h1, ← h4, hv]; grind
    have e2 : r - D = 2 * D * (v - f) := by grind
    have hz : v - f = 0 := by
      refine Int.le_antisymm (Int.not_lt.mp fun z => ?_) (Int.not_lt.mp fun z => ?_)
      · have := Int.mul_le_mul_of_nonneg_left (show 1 ≤ v - f from z) (show 0 ≤ 2 * D by omega)
        omega
      · have := Int.mul_le_mul_of_nonneg_left (show v - f ≤ -1 by omega) (show 0 ≤ 2 * D by omega)
        omega
    rw [hz, Int.mul_zero] at e2
    omega
/-- the ends' words for a way and a code -/
theorem near_eq {m e k B : Int} : nearN m e k B = if (4 * m * scN e k % scD e k = 0 ∧ 4 * m * scN e k / scD e k % 2 = 1) then B / 2 + B / 2 % 2 else (B + 1) / 2 := by
  unfold nearN
  have := tie_iff (X := 4 * m * scN e k) (sc_pos e k).2
  by_cases h : 4 * m * scN e k % (2 * scD e k) = scD e k
  · rw [if_pos h, if_pos (this.mp h)]
  · rw [if_neg h, if_neg (fun z => h (this.mpr z))]
theorem lc_even2 {i : Nat} {σw : DSt} {μ : Mem} {x : Int} {Q : List DL.D → Mem → Prop} (hi : i < σw.length) (h : Q [.int (x + x % 2)] μ) :
    dLcLoop (dgName i) (dTest (dOp dEq (dOp dMod (dCB dInt1 (dCons (dVar i) dNil)) (dC (.int 2))) (dC (.int 0)))) (dVar i) σw [.int x, .int (x + 1)] [] μ Q := by
  have m2 := Int.emod_two_eq x
  have g : ∀ y : Int, (σw.set i (some (.int y)))[i]? = some (some (.int y)) := fun y => List.getElem?_set_self hi
  unfold dLcLoop
  refine e_gname ?_
  refine e_test ?_
  refine e_op ?_
  refine e_op ?_
  refine e_cb ?_
  refine e_cons ?_
  refine e_var (g x) rfl ?_
  walk_at "d"
  refine e_if (fun h1 => ?_) (fun h1 => ?_)
  · refine e_var (g x) rfl ?_
    refine ⟨by rw [sizeLine_eq]; decide, ?_⟩
    unfold dLcLoop
    refine e_gname ?_
    refine e_test ?_
    refine e_op ?_
    refine e_op ?_
    refine e_cb ?_
    refine e_cons ?_
    refine e_var (g (x + 1)) rfl ?_
    walk_at "d"
    unfold dLcLoop
    rw [show x + x % 2 = x by omega] at h
    exact h
  · unfold dLcLoop
    refine e_gname ?_
    refine e_test ?_
    refine e_op ?_
    refine e_op ?_
    refine e_cb ?_
    refine e_cons ?_
    refine e_var (g (x + 1)) rfl ?_
    walk_at "d"
    refine e_var (g (x + 1)) rfl ?_
    refine ⟨by rw [sizeLine_eq]; decide, ?_⟩
    unfold dLcLoop
    rw [show x + x % 2 = x + 1 by omega] at h
    exact h
def F_L_due : DSp := fun ds μ Gd => ∃ (m e A B C c : Int) (w : Way), ds = [.int m, .int e, .str w.s, .bl (decide (c % 2 = 0)), .lst [.int A, .int B, .int C]] ∧ isEA w = true ∧ -1200 ≤ e ∧ e ≤ 1200 ∧ Bd 130 m ∧ 0 ≤ A ∧ 0 ≤ B ∧ Bd 2000 C ∧
  ∀ k, IsP e k → Gd (plD (plainD (dueN m e k (lrF w c) (urF w c) A B C) k)) μ
-- _law_due: slots 0=_law_m 1=_law_e 2=_law_way 3=_law_is_even 4=_law_quotients_here 5=_law_num 6=_law_den 7=_law_lower 8=_law_middle 9=_law_upper 10=_law_first 11=_law_last 12=_law_tens 13=_law_some 14=_law_n; level 4; calls _law_place, _law_plain, _law_scale
def t_L_due : DTS :=
  dSeq (dAsg (dCall F_L_scale (dCons (dVar 1) (dNil))) (dgSeq 2 (dgCons (dgName 5) (dgCons (dgName 6) (dgNil))))) (dSeq (dAsg (dVar 4) (dgSeq 3 (dgCons (dgName 7) (dgCons (dgName 8) (dgCons (dgName 9) (dgNil)))))) (dSeq (dPar 10 11 (dCons (dOp dAdd (dVar 7) (dC (.int 1))) (dCons (dVar 9) (dNil)))) (dSeq (dIfS (dAndT (dTest (dOp dEq (dOp dMod (dCB dInt1 (dCons (dOp dMul (dOp dSub (dOp dMul (dC (.int 2)) (dVar 0)) (dC (.int 1))) (dVar 5)) (dNil))) (dVar 6)) (dC (.int 0)))) (dOrT (dTest (dOp dEq (dVar 2) (dC (.str (PySem.Str.ofString "away"))))) (dTest (dVar 3)))) (dAsg (dVar 7) (dgName 10)) (dNext)) (dSeq (dIfS (dAndT (dTest (dOp dEq (dOp dMod (dCB dInt1 (dCons (dOp dMul (dOp dAdd (dOp dMul (dC (.int 2)) (dVar 0)) (dC (.int 1))) (dVar 5)) (dNil))) (dVar 6)) (dC (.int 0)))) (dOrT (dTest (dOp dEq (dVar 2) (dC (.str (PySem.Str.ofString "away"))))) (dNotT (dTest (dVar 3))))) (dAsg (dOp dSub (dVar 9) (dC (.int 1))) (dgName 11)) (dNext)) (dSeq (dAsg (dOp dMul (dOp dFdiv (dVar 11) (dC (.int 10))) (dC (.int 10))) (dgName 12)) (dSeq (dIfS (dTest (dOp dGe (dVar 12) (dVar 10))) (dRet (dCall F_L_plain (dCons (dVar 12) (dCons (dCall F_L_place (dCons (dVar 1) (dNil))) (dNil))))) (dNext)) (dSeq (dIfS (dAndT (dTest (dOp dEq (dOp dMod (dCB dInt1 (dCons (dOp dMul (dOp dMul (dC (.int 4)) (dVar 0)) (dVar 5)) (dNil))) (dVar 6)) (dC (.int 0)))) (dTest (dOp dEq (dOp dMod (dCB dInt1 (dCons (dOp dFdiv (dOp dMul (dOp dMul (dC (.int 4)) (dVar 0)) (dVar 5)) (dVar 6)) (dNil))) (dC (.int 2))) (dC (.int 1))))) (dSeq (dAsg (dLc (dItT (dTup (dCons (dOp dFdiv (dVar 8) (dC (.int 2))) (dCons (dOp dAdd (dOp dFdiv (dVar 8) (dC (.int 2))) (dC (.int 1))) (dNil))))) (dgName 14) (dTest (dOp dEq (dOp dMod (dCB dInt1 (dCons (dVar 14) (dNil))) (dC (.int 2))) (dC (.int 0)))) (dVar 14) [14]) (dgName 13)) (dRet (dCall F_L_plain (dCons (dOp dIx (dVar 13) (dC (.int 0))) (dCons (dCall F_L_place (dCons (dVar 1) (dNil))) (dNil)))))) (dNext)) (dRet (dCall F_L_plain (dCons (dOp dFdiv (dOp dAdd (dVar 8) (dC (.int 1))) (dC (.int 2))) (dCons (dCall F_L_place (dCons (dVar 1) (dNil))) (dNil))))))))))))
theorem cnt_L_due : ∀ ds μ Gd, F_L_due ds μ Gd → ds.length = 5 := by
  rintro ds μ Gd ⟨a, b, c, d, e, f, g, rfl, _⟩; rfl
theorem ok_L_due : ∀ ds μ Gd, F_L_due ds μ Gd → t_L_due { nx := fun _ μ' => Gd .non μ', rt := Gd } (startD 15 ds) μ := by
  rintro ds μ Gd ⟨m, e, A, B, C, c, w, rfl, hw, e0, e1, bm, a0, bb0, bc, q⟩
  show t_L_due _ [some (.int m), some (.int e), some (.str w.s), some (.bl (decide (c % 2 = 0))), some (.lst [.int A, .int B, .int C]), none, none, none, none, none, none, none, none, none, none] _
  unfold t_L_due
  have haw := w_away w
  generalize w.s = ws at *
  walk_at "d"
  refine ⟨e, rfl, e0, e1, fun k hk => ?_⟩
  have q := q k hk
  have nn := due_nn (m := m) (e := e) (k := k) (C := C) (lr := lrF w c) (ur := urF w c) a0 bb0
  unfold dueN at q nn
  rw [near_eq] at q nn
  obtain ⟨b1, b2⟩ := sc_bd e0 e1 hk
  obtain ⟨p1, p2⟩ := sc_pos e k
  generalize scN e k = N at *
  generalize scD e k = D at *
  have c1 : Bd 133 (2 * m - 1) := bd_sub (k := 132) (bd_mul (i := 2) (by decide) bm) (bd_small 132 (by decide))
  have c2 : Bd 133 (2 * m + 1) := bd_add (k := 132) (bd_mul (i := 2) (by decide) bm) (bd_small 132 (by decide))
  have c4 : Bd 133 (4 * m) := bd_mul (i := 3) (by decide) bm
  walk_at "d"
  refine e_mulI (mul_ok (i := 2) (by decide) bm) ?_
  walk_at "d"
  refine e_mulI (mul_ok c1 b1) ?_
  walk_at "d"
  obtain ⟨aw, haw2, hlr, hur⟩ : ∃ aw : Bool, decide (ws = PySem.Str.ofString "away") = aw ∧ lrF w c = (aw || decide (c % 2 = 0)) ∧ urF w c = (!aw && decide (c % 2 = 0)) := by
    cases w with
    | even => exact ⟨false, haw, rfl, rfl⟩
    | away => exact ⟨true, haw, rfl, rfl⟩
    | zero => cases hw
    | out => cases hw
    | odd => cases hw
  rw [hlr, hur] at q nn
  clear haw hlr hur
  generalize decide (c % 2 = 0) = ev at *
  generalize hz1 : decide ((2 * m - 1) * N % D = 0) = z1 at *
  generalize hz2 : decide ((2 * m + 1) * N % D = 0) = z2 at *
  have fin : ∀ (F8 L : Int), (if L / 10 * 10 < F8 then (if 4 * m * N % D = 0 ∧ 4 * m * N / D % 2 = 1 then B / 2 + B / 2 % 2 else (B + 1) / 2) else L / 10 * 10) = dueB z1 z2 (aw || ev) (!aw && ev) A (if 4 * m * N % D = 0 ∧ 4 * m * N / D % 2 = 1 then B / 2 + B / 2 % 2 else (B + 1) / 2) C →
      0 ≤ (if L / 10 * 10 < F8 then (if 4 * m * N % D = 0 ∧ 4 * m * N / D % 2 = 1 then B / 2 + B / 2 % 2 else (B + 1) / 2) else L / 10 * 10) ∧ Gd (plD (plainD (if L / 10 * 10 < F8 then (if 4 * m * N % D = 0 ∧ 4 * m * N / D % 2 = 1 then B / 2 + B / 2 % 2 else (B + 1) / 2) else L / 10 * 10) k)) μ := fun F8 L h => by rw [h]; exact ⟨nn, q⟩
  unfold dueB at fin
  clear q nn
  cases z1 <;> cases aw <;> cases ev
  all_goals
    (try walk_at "d")
    (try first | refine e_ifT haw2 ?_ | refine e_ifF haw2 ?_)
    (try walk_at "d")
    refine e_mulI (mul_ok (i := 2) (by decide) bm) ?_
    walk_at "d"
    refine e_mulI (mul_ok c2 b1) ?_
    walk_at "d"
    rw [hz2]
  all_goals cases z2
  all_goals
    (try walk_at "d")
    (try first | refine e_ifT haw2 ?_ | refine e_ifF haw2 ?_)
    (try walk_at "d")
    refine e_fdiv (div_ok (k := 5) (by decide) (by decide)) ?_
    walk_at "d"
    refine e_mulI (mul_ok (i := 2001) (j := 4) (bd_div (by first | exact bd_up bc (by decide) | exact bd_sub bc (bd_small 2000 (by decide)))) (by decide)) ?_
    walk_at "d"
    refine e_if (fun z => ?_) (fun z => ?_)
    · walk_at "d"
      refine ⟨e, rfl, e0, e1, fun k2 hk2 => ?_⟩
      obtain rfl := isP_uniq hk hk2
      have f := by
        first
        | exact fin (A + 1) C (by rw [show C / 10 * 10 = C - C % 10 by omega]; rfl)
        | exact fin A C (by rw [show C / 10 * 10 = C - C % 10 by omega]; rfl)
        | exact fin (A + 1) (C - 1) (by rw [show (C - 1) / 10 * 10 = C - 1 - (C - 1) % 10 by omega]; rfl)
        | exact fin A (C - 1) (by rw [show (C - 1) / 10 * 10 = C - 1 - (C - 1) % 10 by omega]; rfl)
      rw [if_neg (by omega)] at f
      exact ⟨_, _, rfl, f.1, f.2⟩
    · have f := by
        first
        | exact fin (A + 1) C (by rw [show C / 10 * 10 = C - C % 10 by omega]; rfl)
        | exact fin A C (by rw [show C / 10 * 10 = C - C % 10 by omega]; rfl)
        | exact fin (A + 1) (C - 1) (by rw [show (C - 1) / 10 * 10 = C - 1 - (C - 1) % 10 by omega]; rfl)
        | exact fin A (C - 1) (by rw [show (C - 1) / 10 * 10 = C - 1 - (C - 1) % 10 by omega]; rfl)
      rw [if_pos (by omega)] at f
      walk_at "d"
      refine e_mulI (mul_ok (i := 3) (by decide) bm) ?_
      walk_at "d"
      refine e_mulI (mul_ok c4 b1) ?_
      walk_at "d"
      have last : ¬ (4 * m * N % D = 0 ∧ 4 * m * N / D % 2 = 1) → 0 ≤ (B + 1) / 2 ∧ Gd (plD (plainD ((B + 1) / 2) k)) μ := fun h => by rw [if_neg h] at f; exact f
      have fst : (4 * m * N % D = 0 ∧ 4 * m * N / D % 2 = 1) → 0 ≤ B / 2 + B / 2 % 2 ∧ Gd (plD (plainD (B / 2 + B / 2 % 2) k)) μ := fun h => by rw [if_pos h] at f; exact f
      clear f fin
      refine e_if (fun z3 => ?_) (fun z3 => ?_)
      · walk_at "d"
        refine e_mulI (mul_ok (i := 3) (by decide) bm) ?_
        walk_at "d"
        refine e_mulI (mul_ok c4 b1) ?_
        walk_at "d"
        refine e_fdiv (div_ok p2 b2) ?_
        walk_at "d"
        refine e_if (fun z4 => ?_) (fun z4 => ?_)
        · have f := fst ⟨z3, z4⟩
          walk_at "d"
          refine e_fdiv (div_ok (k := 5) (by decide) (by decide)) ?_
          walk_at "d"
          refine e_fdiv (div_ok (k := 5) (by decide) (by decide)) ?_
          walk_at "d"
          refine lc_even2 (by show (14 : Nat) < 15; decide) ?_
          walk_at "d"
          refine ⟨e, rfl, e0, e1, fun k2 hk2 => ?_⟩
          obtain rfl := isP_uniq hk hk2
          exact ⟨_, _, rfl, f.1, f.2⟩
        · have f := last (fun z => z4 z.2)
          walk_at "d"
          refine e_fdiv (div_ok (k := 5) (by decide) (by decide)) ?_
          walk_at "d"
          refine ⟨e, rfl, e0, e1, fun k2 hk2 => ?_⟩
          obtain rfl := isP_uniq hk hk2
          exact ⟨_, _, rfl, f.1, f.2⟩
      · have f := last (fun z => z3 z.1)
        walk_at "d"
        refine e_fdiv (div_ok (k := 5) (by decide) (by decide)) ?_
        walk_at "d"
        refine ⟨e, rfl, e0, e1, fun k2 hk2 => ?_⟩
        obtain rfl := isP_uniq hk hk2
        exact ⟨_, _, rfl, f.1, f.2⟩
theorem fast_in {P : Nat} {lo hi e c : Int} (hlh : lo ≤ hi) (c0 : 0 ≤ c) (c1 : c ≤ countF P lo hi) : (isFast P lo hi e c ↔ inFast P lo hi e (c - (e - lo) * 2 ^ P)) ∧ (isFast P lo hi e c → partM P c = c - (e - lo) * 2 ^ P) := by
  have fwd : isFast P lo hi e c → partM P c = c - (e - lo) * 2 ^ P := fun h => by
    obtain ⟨f1, f2, f3, f4, f5, f6, f7⟩ := fast_facts hlh c0 c1 h
    have hs := (part_can (P := P) (lo := lo) hlh c0 f1).2
    rw [f2] at hs
    omega
  refine ⟨⟨fun h => ?_, fun h => ?_⟩, fwd⟩
  · obtain ⟨f1, f2, f3, f4, f5, f6, f7⟩ := fast_facts hlh c0 c1 h
    rw [← fwd h]
    exact ⟨f3, f4, f5, f6, f7.symm⟩
  · generalize hm : c - (e - lo) * 2 ^ P = m at *
    obtain ⟨h1, h2, h3, h4, h5⟩ := h
    have hp := two_pos P
    have hs := pow_s P
    have hcan : can P lo hi m e := ⟨by omega, h4, h1, h2, by omega⟩
    obtain ⟨u1, u2⟩ := can_uniq hcan (c := c) (by omega)
    have hmul : (e - lo) * 2 ^ P ≤ (hi - lo) * 2 ^ P := Int.mul_le_mul_of_nonneg_right (by omega) (Int.le_of_lt hp)
    have hct : countF P lo hi = (hi - lo) * 2 ^ P + 2 * 2 ^ P := by unfold countF; rw [Int.add_mul]
    refine ⟨by omega, u2, ?_, ?_⟩
    · unfold spanF
      rw [if_neg (by omega), u1]
      by_cases z : e > lo
      · rw [if_pos z]
        dsimp only
        split <;> omega
      · rw [if_neg z]; exact h3
    · unfold spanF
      rw [if_neg (by omega), u1]
      by_cases z : e > lo
      · rw [if_pos z]
        dsimp only
        split <;> split <;> omega
      · rw [if_neg z]
        dsimp only
        split <;> omega
theorem due_bd {m e k A B C : Int} {lr ur : Bool} (a0 : 0 ≤ A) (b0 : 0 ≤ B) (bb : Bd 1800 B) (bc : Bd 1800 C) : Bd 1801 (dueN m e k lr ur A B C) := by
  have h2 : 0 ≤ nearN m e k B ∧ (nearN m e k B).natAbs ≤ B.natAbs + 1 := by unfold nearN; split <;> omega
  have key : ∀ Z : Nat, 2 ≤ Z → B.natAbs < Z → C.natAbs < Z → (dueN m e k lr ur A B C).natAbs < Z + Z := fun Z z2 zb zc => by
    unfold dueN dueB
    generalize nearN m e k B = n at *
    repeat' split
    all_goals omega
  have := key (2 ^ 1800) (Nat.le_trans (show 2 ≤ 2 ^ 1 by decide) (Nat.pow_le_pow_right (by decide) (by decide))) bb bc
  have e2 := two_pow_s 1800
  show (dueN m e k lr ur A B C).natAbs < 2 ^ (1800 + 1)
  rw [e2]; exact this
theorem shw_pl {d q : Int} (d0 : 0 ≤ d) (bd : Bd 1801 d) (bq : Bd 1801 q) : (plD (plainD d q)).shw := by
  obtain ⟨b1, b2⟩ := plain_bd d0 bd bq
  unfold plD
  exact shw_of ⟨bd_up b1 (by decide), bd_up b2 (by decide), trivial⟩ (by simp only [D.wt, wts]; decide) (by simp only [D.dp, dps]; decide)
theorem shw_no : D.non.shw := shw_of (d := .non) trivial (by simp only [D.wt]; decide) (by simp only [D.dp]; decide)
theorem ne_same {a b : Str} (h : a = b) : (!decide (a = b)) = false := by rw [decide_eq_true h]; rfl
theorem way_in {x : D} (h : x ∈ [D.str (PySem.Str.ofString "even"), .str (PySem.Str.ofString "away"), .str (PySem.Str.ofString "zero"), .str (PySem.Str.ofString "out"), .str (PySem.Str.ofString "odd")]) : ∃ w : Way, x = .str w.s := by
  simp only [List.mem_cons, List.not_mem_nil, or_false] at h
  rcases h with rfl | rfl | rfl | rfl | rfl
  · exact ⟨.even, rfl⟩
  · exact ⟨.away, rfl⟩
  · exact ⟨.zero, rfl⟩
  · exact ⟨.out, rfl⟩
  · exact ⟨.odd, rfl⟩
theorem way_ea (w : Way) : inD (.str w.s) [.str (PySem.Str.ofString "even"), .str (PySem.Str.ofString "away")] = isEA w := by cases w <;> decide +kernel
def F_L_right : DSp := fun ds μ Gd => ∃ (P : Nat) (lo hi e g s h : Int), ds = [fm P lo hi, .tup [.int e, .int g, .int s, .int h]] ∧ P ≤ 6 ∧ -8 ≤ lo ∧ lo ≤ hi ∧ hi ≤ lo + 3 ∧ lo ≤ 4 ∧ lo - 1 ≤ e ∧ e ≤ hi + 1 ∧ okpr g s h ∧ Gd (.bl true) μ
-- _law_right: slots 0=_law_form_here 1=_law_row_here 2=_law_p 3=_law_low 4=_law_high 5=_law_some 6=_law_top_here 7=_law_code 8=_law_m 9=_law_way 10=_law_due_here; level 7; calls _law_due, _law_fast, _law_quotients, _law_top, count_of, fast_shortest
def t_L_right : DTS :=
  dSeq (dAsg (dVar 0) (dgSeq 3 (dgCons (dgName 2) (dgCons (dgName 3) (dgCons (dgName 4) (dgNil)))))) (dSeq (dPar 5 6 (dCons (dCall F_L_fast (dCons (dVar 0) (dCons (dOp dIx (dVar 1) (dC (.int 0))) (dNil)))) (dCons (dCall F_L_top (dCons (dVar 1) (dNil))) (dNil)))) (dSeq (dFor (dRng1 (dCons (dOp dAdd (dCall F_count_of (dCons (dVar 0) (dNil))) (dC (.int 1))) (dNil))) (dgName 7) (dSeq (dAsg (dOp dSub (dVar 7) (dOp dMul (dOp dSub (dOp dIx (dVar 1) (dC (.int 0))) (dVar 3)) (dOp dShl (dC (.int 1)) (dOp dSub (dVar 2) (dC (.int 1)))))) (dgName 8)) (dFor (dItT (dTup (dCons (dC (.str (PySem.Str.ofString "even"))) (dCons (dC (.str (PySem.Str.ofString "away"))) (dCons (dC (.str (PySem.Str.ofString "zero"))) (dCons (dC (.str (PySem.Str.ofString "out"))) (dCons (dC (.str (PySem.Str.ofString "odd"))) (dNil)))))))) (dgName 9) (dSeq (dAsg (dC .non) (dgName 10)) (dSeq (dIfS (dAndT (dTest (dOp (dIn false) (dVar 8) (dVar 5))) (dTest (dOp (dIn false) (dVar 9) (dTup (dCons (dC (.str (PySem.Str.ofString "even"))) (dCons (dC (.str (PySem.Str.ofString "away"))) (dNil))))))) (dAsg (dCall F_L_due (dCons (dVar 8) (dCons (dOp dIx (dVar 1) (dC (.int 0))) (dCons (dVar 9) (dCons (dOp dEq (dOp dMod (dCB dInt1 (dCons (dVar 7) (dNil))) (dC (.int 2))) (dC (.int 0))) (dCons (dCall F_L_quotients (dCons (dVar 8) (dCons (dVar 6) (dNil)))) (dNil))))))) (dgName 10)) (dNext)) (dIfS (dTest (dOp dNe (dCB dRepr (dCons (dCall F_fast_shortest (dCons (dVar 0) (dCons (dVar 9) (dCons (dVar 1) (dCons (dVar 7) (dNil)))))) (dNil))) (dCB dRepr (dCons (dVar 10) (dNil))))) (dRet (dC (.bl false))) (dNext))))))) (dRet (dC (.bl true)))))
theorem cnt_L_right : ∀ ds μ Gd, F_L_right ds μ Gd → ds.length = 2 := by
  rintro ds μ Gd ⟨a, b, c, d, e, f, g, rfl, _⟩; rfl
theorem ok_L_right : ∀ ds μ Gd, F_L_right ds μ Gd → t_L_right { nx := fun _ μ' => Gd .non μ', rt := Gd } (startD 11 ds) μ := by
  rintro ds μ Gd ⟨P, lo, hi, e, g, s, h, rfl, hP, l0, l1, h1, l4, e0, e1, og, q⟩
  have o : okf P lo hi := ⟨by omega, by omega, by omega, by omega⟩
  show t_L_right _ [some (.tup [.int (P + 1), .int lo, .int hi]), some (.tup [.int e, .int g, .int s, .int h]), none, none, none, none, none, none, none, none, none] _
  unfold t_L_right
  walk_at "d"
  refine ⟨P, lo, hi, e, rfl, by omega, fun L hf hm => ?_⟩
  walk_at "d"
  refine ⟨e, g, s, h, rfl, og, ?_⟩
  walk_at "d"
  refine ⟨P, lo, hi, rfl, o, ?_⟩
  have hp6 : (2 : Int) ^ P ≤ 2 ^ 6 := pow_le2 (by omega)
  have hp0 := two_pos P
  have hcb : 0 ≤ countF P lo hi ∧ countF P lo hi ≤ 320 := by
    unfold countF
    have a1 := Int.mul_le_mul_of_nonneg_right (show hi - lo + 2 ≤ 5 by omega) (Int.le_of_lt hp0)
    have a2 := Int.mul_nonneg (show 0 ≤ hi - lo + 2 by omega) (Int.le_of_lt hp0)
    omega
  obtain ⟨bt, bd, d0, t0⟩ := bd_top og
  walk_at "d"
  refine loop_inv (fun k σ μ' => ∃ z7 z8 z9 z10 : Option D, σ = [some (.tup [.int (P + 1), .int lo, .int hi]), some (.tup [.int e, .int g, .int s, .int h]), some (.int (P + 1)), some (.int lo), some (.int hi), some (.lst L), some (.tup [.int (topN g s h), .int (topD s)]), z7, z8, z9, z10] ∧ μ' = μ) _ 0 _ _ ⟨none, none, none, none, rfl, rfl⟩ ?_ ?_
  · rintro k x σ μ' K ex ⟨z7, z8, z9, z10, rfl, rfl⟩ hK
    obtain ⟨hi', rfl⟩ := rng_at8 ex
    obtain ⟨c, hc⟩ : ∃ c : Int, c = 0 + (k : Int) := ⟨_, rfl⟩
    rw [← hc]
    have c0 : 0 ≤ c := by omega
    have c1 : c ≤ countF P lo hi := by omega
    have bp : Bd 7 ((2 : Int) ^ P) := bd_pow (by omega)
    walk_at "d"
    refine e_shlN (n := 2) P (by omega) (bd_small 2 (by decide)) (by omega) ?_
    rw [Int.one_mul]
    refine e_mulI (mul_ok (bd_small (x := e - lo) 10 (by omega)) bp) ?_
    walk_at "d"
    obtain ⟨fi, fmm⟩ := fast_in (P := P) (e := e) l1 c0 c1
    have bm : Bd 20 (c - (e - lo) * 2 ^ P) := bd_sub (k := 19) (bd_small (x := c) 19 (by omega)) (bd_up (bd_mul (bd_small (x := e - lo) 10 (by omega)) bp) (by decide))
    generalize c - (e - lo) * 2 ^ P = m at *
    refine loop_all (fun σ μ'' => ∃ z9 z10 : Option D, σ = [some (.tup [.int (P + 1), .int lo, .int hi]), some (.tup [.int e, .int g, .int s, .int h]), some (.int (P + 1)), some (.int lo), some (.int hi), some (.lst L), some (.tup [.int (topN g s h), .int (topD s)]), some (.int c), some (.int m), z9, z10] ∧ μ'' = μ') ⟨z9, z10, rfl, rfl⟩ ?_ ?_
    · rintro x σ μ'' K2 hx ⟨z9, z10, rfl, rfl⟩ hK2
      obtain ⟨w, rfl⟩ := way_in hx
      walk_at "d"
      refine e_in rfl rfl hf ?_
      rw [hm]
      walk_at "d"
      by_cases hfw : isFast P lo hi e c ∧ isEA w = true
      · have hin := fi.mp hfw.1
        rw [decide_eq_true hin]
        walk_at "d"
        rw [way_ea, hfw.2]
        walk_at "d"
        have hfm : partM P c = m := fmm hfw.1
        obtain ⟨f1, f2, f3, f4, f5, f6, f7⟩ := fast_facts l1 c0 c1 hfw.1
        rw [hfm] at f5 f6
        refine ⟨m, _, _, rfl, bd_up bm (by decide), bt, bd, d0, ?_⟩
        unfold quo
        walk_at "d"
        have b1 : Bd 133 (2 * m - 1) := bd_sub (k := 132) (bd_mul (i := 2) (by decide) (bd_up bm (show 20 ≤ 130 by decide))) (bd_small 132 (by decide))
        have b2 : Bd 133 (2 * m + 1) := bd_add (k := 132) (bd_mul (i := 2) (by decide) (bd_up bm (show 20 ≤ 130 by decide))) (bd_small 132 (by decide))
        have b4 : Bd 133 (4 * m) := bd_mul (i := 3) (by decide) (bd_up bm (show 20 ≤ 130 by decide))
        have a0 : 0 ≤ (2 * m - 1) * topN g s h / topD s := Int.ediv_nonneg (Int.mul_nonneg (by omega) t0) (Int.le_of_lt d0)
        have bb0 : 0 ≤ 4 * m * topN g s h / topD s := Int.ediv_nonneg (Int.mul_nonneg (by omega) t0) (Int.le_of_lt d0)
        have bB : Bd 1800 (4 * m * topN g s h / topD s) := bd_div (bd_up (bd_mul b4 bt) (by decide))
        have bC : Bd 1800 ((2 * m + 1) * topN g s h / topD s) := bd_div (bd_up (bd_mul b2 bt) (by decide))
        have hfast : ∀ k, fastD P lo hi e g s h c k w = plD (plainD (dueN m e k (lrF w c) (urF w c) ((2 * m - 1) * topN g s h / topD s) (4 * m * topN g s h / topD s) ((2 * m + 1) * topN g s h / topD s)) k) := fun k => by
          unfold fastD
          rw [if_pos hfw, hfm]
        generalize (2 * m - 1) * topN g s h / topD s = A at *
        generalize 4 * m * topN g s h / topD s = B at *
        generalize (2 * m + 1) * topN g s h / topD s = C at *
        refine ⟨m, e, A, B, C, c, w, rfl, hfw.2, by omega, by omega, bd_up bm (by decide), a0, bb0, bd_up bC (by decide), fun k hk => ?_⟩
        have hsh : (plD (plainD (dueN m e k (lrF w c) (urF w c) A B C) k)).shw := shw_pl (due_nn a0 bb0) (due_bd a0 bb0 bB bC) (bd_small 1801 (by have := place_bd (by omega) (by omega) hk; omega))
        have hfz : (plD (plainD (dueN m e k (lrF w c) (urF w c) A B C) k)).fz = true := rfl
        have hfast := hfast k
        generalize plD (plainD (dueN m e k (lrF w c) (urF w c) A B C) k) = R at *
        walk_at "d"
        refine ⟨P, lo, hi, e, g, s, h, c, w, rfl, o, by omega, by omega, og, c0, c1, fun hn => absurd hfw hn, fun k2 hk2 => ?_⟩
        obtain rfl := isP_uniq hk hk2
        rw [hfast]
        walk_at "d"
        refine e_repr hsh ?_
        refine e_var rfl hfz ?_
        walk_at "d"
        refine e_repr hsh ?_
        walk_at "d"
        refine e_ifF (ne_same rfl) ?_
        walk_at "d"
        exact hK2 _ _ ⟨_, _, rfl, rfl⟩
      · by_cases hin : inFast P lo hi e m
        · rw [decide_eq_true hin]
          walk_at "d"
          rw [way_ea, show isEA w = false by
            cases hw : isEA w with
            | false => rfl
            | true => exact absurd ⟨fi.mpr hin, hw⟩ hfw]
          walk_at "d"
          refine ⟨P, lo, hi, e, g, s, h, c, w, rfl, o, by omega, by omega, og, c0, c1, fun _ => ?_, fun k hk => ?_⟩
          · walk_at "d"
            refine e_repr shw_no ?_
            walk_at "d"
            refine e_repr shw_no ?_
            walk_at "d"
            exact hK2 _ _ ⟨_, _, rfl, rfl⟩
          · unfold fastD
            rw [if_neg hfw]
            walk_at "d"
            refine e_repr shw_no ?_
            walk_at "d"
            refine e_repr shw_no ?_
            walk_at "d"
            exact hK2 _ _ ⟨_, _, rfl, rfl⟩
        · rw [decide_eq_false hin]
          walk_at "d"
          refine ⟨P, lo, hi, e, g, s, h, c, w, rfl, o, by omega, by omega, og, c0, c1, fun _ => ?_, fun k hk => ?_⟩
          · walk_at "d"
            refine e_repr shw_no ?_
            walk_at "d"
            refine e_repr shw_no ?_
            walk_at "d"
            exact hK2 _ _ ⟨_, _, rfl, rfl⟩
          · unfold fastD
            rw [if_neg hfw]
            walk_at "d"
            refine e_repr shw_no ?_
            walk_at "d"
            refine e_repr shw_no ?_
            walk_at "d"
            exact hK2 _ _ ⟨_, _, rfl, rfl⟩
    · rintro σ μ'' ⟨z9, z10, rfl, rfl⟩
      exact hK _ _ ⟨_, _, _, _, rfl, rfl⟩
  · rintro σ μ' ⟨z7, z8, z9, z10, rfl, rfl⟩
    walk_at "d"
    exact q
def F_L_form : DSp := fun ds μ Gd => ∃ N : Int, ds = [.box 0] ∧ DK N μ ∧ N + 10 < 1000000000000 ∧ ∀ (P : Nat) (lo hi : Int) μ', 3 ≤ P → P ≤ 6 → -8 ≤ lo → lo ≤ 4 → lo ≤ hi → hi ≤ lo + 3 → DK (N + 3) μ' → Gd (fm P lo hi) μ'
-- _law_form: slots 0=_law_deck_here 1=_law_p 2=_law_low; level 2; calls _law_draw
def t_L_form : DTS :=
  dSeq (dPar 1 2 (dCons (dOp dAdd (dC (.int 4)) (dCall F_L_draw (dCons (dVar 0) (dCons (dC (.int 4)) (dNil))))) (dCons (dOp dSub (dCall F_L_draw (dCons (dVar 0) (dCons (dC (.int 13)) (dNil)))) (dC (.int 8))) (dNil)))) (dRet (dTup (dCons (dVar 1) (dCons (dVar 2) (dCons (dOp dAdd (dVar 2) (dCall F_L_draw (dCons (dVar 0) (dCons (dC (.int 4)) (dNil))))) (dNil))))))
theorem cnt_L_form : ∀ ds μ Gd, F_L_form ds μ Gd → ds.length = 1 := by
  rintro ds μ Gd ⟨N, rfl, _⟩; rfl
theorem ok_L_form : ∀ ds μ Gd, F_L_form ds μ Gd → t_L_form { nx := fun _ μ' => Gd .non μ', rt := Gd } (startD 3 ds) μ := by
  rintro ds μ Gd ⟨N, rfl, hk, hN, q⟩
  show t_L_form _ [some (.box 0), none, none] _
  unfold t_L_form
  walk_at "d"
  refine ⟨4, N, rfl, by omega, bd_small 300 (by decide), hk, by omega, fun r μ1 r0 r1 hk1 => ?_⟩
  walk_at "d"
  refine ⟨13, N + 1, rfl, by omega, bd_small 300 (by decide), hk1, by omega, fun r' μ2 r0' r1' hk2 => ?_⟩
  walk_at "d"
  refine ⟨4, N + 1 + 1, rfl, by omega, bd_small 300 (by decide), hk2, by omega, fun r2 μ3 r02 r12 hk3 => ?_⟩
  walk_at "d"
  have e : (4 : Int) + r = ((3 + r).toNat : Int) + 1 := by omega
  rw [e]
  exact q _ _ _ _ (by omega) (by omega) (by omega) (by omega) (by omega) (by omega) (hk3.mono (by omega))
theorem cut_okpr {e k b : Int} (e0 : -1200 ≤ e) (e1 : e ≤ 1200) (hk : IsP e k) (b0 : 1 ≤ b) (b1 : b ≤ 250) :
    1 ≤ cutG (scN e k) (scD e k) b ∧ cutG (scN e k) (scD e k) b < 2 ^ b.toNat ∧ -1600 ≤ cutS (scN e k) (scD e k) b ∧ cutS (scN e k) (scD e k) b ≤ 1310 ∧ 0 ≤ cutH (scN e k) (scD e k) b ∧ cutH (scN e k) (scD e k) b ≤ 1 := by
  obtain ⟨bN, bD⟩ := sc_bd e0 e1 hk
  obtain ⟨n0, d0⟩ := sc_pos e k
  obtain ⟨l0, l1⟩ := logF_bd bN bD
  have g1 := cut_lo n0 d0 b0
  have g2 := cut_hi n0 d0 b0
  have hp := two_pos (b - 1).toNat
  refine ⟨by omega, g2, ?_, ?_, ?_, ?_⟩
  · unfold cutS; omega
  · unfold cutS; omega
  · unfold cutH; split <;> omega
  · unfold cutH; split <;> omega
def F_L_row : DSp := fun ds μ Gd => ∃ e N : Int, ds = [.box 0, .int e] ∧ -1200 ≤ e ∧ e ≤ 1200 ∧ DK N μ ∧ N + 20 < 1000000000000 ∧ ∀ g s h μ', okpr g s h → DK (N + 6) μ' → Gd (.tup [.int e, .int g, .int s, .int h]) μ'
-- _law_row: slots 0=_law_deck_here 1=_law_exponent 2=_law_num 3=_law_den 4=_law_bits 5=_law_g 6=_law_s 7=_law_h 8=_law_way; level 4; calls _law_cut, _law_draw, _law_scale
def t_L_row : DTS :=
  dSeq (dAsg (dCall F_L_scale (dCons (dVar 1) (dNil))) (dgSeq 2 (dgCons (dgName 2) (dgCons (dgName 3) (dgNil))))) (dSeq (dAsg (dOp dAdd (dC (.int 1)) (dCall F_L_draw (dCons (dVar 0) (dCons (dOp dIx (dLst (dCons (dC (.int 4)) (dCons (dC (.int 10)) (dCons (dC (.int 16)) (dCons (dC (.int 30)) (dNil)))))) (dCall F_L_draw (dCons (dVar 0) (dCons (dC (.int 4)) (dNil))))) (dNil))))) (dgName 4)) (dSeq (dAsg (dCall F_L_cut (dCons (dVar 2) (dCons (dVar 3) (dCons (dVar 4) (dNil))))) (dgSeq 3 (dgCons (dgName 5) (dgCons (dgName 6) (dgCons (dgName 7) (dgNil)))))) (dSeq (dAsg (dCall F_L_draw (dCons (dVar 0) (dCons (dC (.int 6)) (dNil)))) (dgName 8)) (dSeq (dIfS (dTest (dOp dEq (dVar 8) (dC (.int 0)))) (dRet (dTup (dCons (dVar 1) (dCons (dCB dMax2 (dCons (dC (.int 1)) (dCons (dOp dSub (dOp dAdd (dVar 5) (dCall F_L_draw (dCons (dVar 0) (dCons (dC (.int 5)) (dNil))))) (dC (.int 2))) (dNil)))) (dCons (dVar 6) (dCons (dCall F_L_draw (dCons (dVar 0) (dCons (dC (.int 4)) (dNil)))) (dNil))))))) (dNext)) (dSeq (dIfS (dTest (dOp dEq (dVar 8) (dC (.int 1)))) (dRet (dTup (dCons (dVar 1) (dCons (dOp dAdd (dC (.int 1)) (dCall F_L_draw (dCons (dVar 0) (dCons (dOp dShl (dC (.int 1)) (dVar 4)) (dNil))))) (dCons (dVar 6) (dCons (dCall F_L_draw (dCons (dVar 0) (dCons (dC (.int 4)) (dNil)))) (dNil))))))) (dNext)) (dSeq (dIfS (dTest (dOp dEq (dVar 8) (dC (.int 2)))) (dRet (dTup (dCons (dVar 1) (dCons (dVar 5) (dCons (dOp dSub (dOp dAdd (dVar 6) (dCall F_L_draw (dCons (dVar 0) (dCons (dC (.int 3)) (dNil))))) (dC (.int 1))) (dCons (dVar 7) (dNil))))))) (dNext)) (dRet (dTup (dCons (dVar 1) (dCons (dVar 5) (dCons (dVar 6) (dCons (dVar 7) (dNil)))))))))))))
theorem cnt_L_row : ∀ ds μ Gd, F_L_row ds μ Gd → ds.length = 2 := by
  rintro ds μ Gd ⟨e, N, rfl, _⟩; rfl
theorem ok_L_row : ∀ ds μ Gd, F_L_row ds μ Gd → t_L_row { nx := fun _ μ' => Gd .non μ', rt := Gd } (startD 9 ds) μ := by
  rintro ds μ Gd ⟨e, N, rfl, e0, e1, hk, hN, q⟩
  show t_L_row _ [some (.box 0), some (.int e), none, none, none, none, none, none, none] _
  unfold t_L_row
  walk_at "d"
  refine ⟨e, rfl, e0, e1, fun k hP => ?_⟩
  walk_at "d"
  refine ⟨4, N, rfl, by omega, bd_small 300 (by decide), hk, by omega, fun r μ1 r0 r1 hk1 => ?_⟩
  obtain ⟨w, e1w, hw⟩ := atI_mem (l := [D.int 4, .int 10, .int 16, .int 30]) r0 r1
  obtain ⟨many, rfl, m0, m1⟩ : ∃ m : Int, w = .int m ∧ 1 ≤ m ∧ m ≤ 30 := by
    simp only [List.mem_cons, List.not_mem_nil, or_false] at hw
    rcases hw with rfl | rfl | rfl | rfl
    all_goals exact ⟨_, rfl, by decide, by decide⟩
  refine e_ix rfl e1w ?_
  walk_at "d"
  refine ⟨many, N + 1, rfl, by omega, bd_up (bd_small 10 (by omega)) (by decide), hk1, by omega, fun r' μ2 r0' r1' hk2 => ?_⟩
  walk_at "d"
  obtain ⟨bN, bD⟩ := sc_bd e0 e1 hP
  obtain ⟨n0, d0⟩ := sc_pos e k
  obtain ⟨c1, c2, c3, c4, c5, c6⟩ := cut_okpr e0 e1 hP (show 1 ≤ 1 + r' by omega) (show 1 + r' ≤ 250 by omega)
  have hb30 : (2 : Int) ^ (1 + r').toNat ≤ 2 ^ 30 := pow_le2 (by omega)
  have hbb : Bd 31 ((2 : Int) ^ (1 + r').toNat) := bd_pow (by omega)
  have hpp := two_pos (1 + r').toNat
  refine ⟨_, _, 1 + r', rfl, n0, d0, bd_up bN (by decide), bd_up bD (by decide), by omega, by omega, ?_⟩
  generalize cutG (scN e k) (scD e k) (1 + r') = g at *
  generalize cutS (scN e k) (scD e k) (1 + r') = s at *
  generalize cutH (scN e k) (scD e k) (1 + r') = h at *
  walk_at "d"
  refine ⟨6, N + 1 + 1, rfl, by omega, bd_small 300 (by decide), hk2, by omega, fun z μ3 z0 z1 hk3 => ?_⟩
  walk_at "d"
  have bg : ∀ x : Int, 0 ≤ x → x ≤ 2 ^ 30 + 10 → Bd 260 x := fun x h0 h1 => bd_up (bd_small (x := x) 40 (by omega)) (by decide)
  refine e_if (fun y => ?_) (fun y => ?_)
  · walk_at "d"
    refine ⟨5, N + 1 + 1 + 1, rfl, by omega, bd_small 300 (by decide), hk3, by omega, fun v μ4 v0 v1 hk4 => ?_⟩
    walk_at "d"
    refine ⟨4, N + 1 + 1 + 1 + 1, rfl, by omega, bd_small 300 (by decide), hk4, by omega, fun u μ5 u0 u1 hk5 => ?_⟩
    walk_at "d"
    exact q _ _ _ _ ⟨by split <;> omega, bg _ (by split <;> omega) (by split <;> omega), by omega, by omega, u0, by omega⟩ (hk5.mono (by omega))
  walk_at "d"
  refine e_if (fun y => ?_) (fun y => ?_)
  · walk_at "d"
    refine e_shlN (n := 2) (1 + r').toNat (by omega) (bd_small 2 (by decide)) (by omega) ?_
    rw [Int.one_mul]
    walk_at "d"
    refine ⟨_, N + 1 + 1 + 1, rfl, hpp, bd_up hbb (by decide), hk3, by omega, fun v μ4 v0 v1 hk4 => ?_⟩
    walk_at "d"
    refine ⟨4, N + 1 + 1 + 1 + 1, rfl, by omega, bd_small 300 (by decide), hk4, by omega, fun u μ5 u0 u1 hk5 => ?_⟩
    walk_at "d"
    exact q _ _ _ _ ⟨by omega, bg _ (by omega) (by omega), by omega, by omega, u0, by omega⟩ (hk5.mono (by omega))
  walk_at "d"
  refine e_if (fun y => ?_) (fun y => ?_)
  · walk_at "d"
    refine ⟨3, N + 1 + 1 + 1, rfl, by omega, bd_small 300 (by decide), hk3, by omega, fun v μ4 v0 v1 hk4 => ?_⟩
    walk_at "d"
    exact q _ _ _ _ ⟨by omega, bg _ (by omega) (by omega), by omega, by omega, by omega, by omega⟩ (hk4.mono (by omega))
  · walk_at "d"
    exact q _ _ _ _ ⟨by omega, bg _ (by omega) (by omega), by omega, by omega, by omega, by omega⟩ (hk3.mono (by omega))
theorem way_ea2 {x : D} (h : x ∈ [D.str (PySem.Str.ofString "even"), .str (PySem.Str.ofString "away")]) : ∃ w : Way, x = .str w.s ∧ isEA w = true := by
  simp only [List.mem_cons, List.not_mem_nil, or_false] at h
  rcases h with rfl | rfl
  · exact ⟨.even, rfl, rfl⟩
  · exact ⟨.away, rfl, rfl⟩
def t_gr_rest : DTS := dSeq (dAsg (dOp dAdd (dLst (dCons (dVar 5) (dCons (dOp dSub (dOp dShl (dC (.int 1)) (dVar 1)) (dC (.int 1))) (dNil)))) (dLc (dRng1 (dCons (dC (.int 4)) (dNil))) (dgName 14) (dYes) (dOp dAdd (dVar 5) (dCall F_L_draw (dCons (dVar 0) (dCons (dOp dSub (dOp dShl (dC (.int 1)) (dVar 1)) (dVar 5)) (dNil))))) [14])) (dgName 6)) (dSeq (dAsg (dOp dAdd (dTup (dCons (dVar 2) (dNil))) (dCall F_L_cut (dCons (dOp dIx (dVar 4) (dC (.int 0))) (dCons (dOp dIx (dVar 4) (dC (.int 1))) (dCons (dOp dAdd (dVar 1) (dCall F_L_draw (dCons (dVar 0) (dCons (dC (.int 9)) (dNil))))) (dNil)))))) (dgName 7)) (dSeq (dFor (dItT (dTup (dCons (dCall F_L_row (dCons (dVar 0) (dCons (dVar 2) (dNil)))) (dCons (dVar 7) (dNil))))) (dgName 8) (dFor (dItL (dVar 6)) (dgName 9) (dSeq (dAsg (dOp dAdd (dOp dMul (dOp dSub (dVar 2) (dOp dIx (dVar 3) (dC (.int 1)))) (dOp dShl (dC (.int 1)) (dOp dSub (dVar 1) (dC (.int 1))))) (dVar 9)) (dgName 10)) (dSeq (dAsg (dCall F_L_quotients (dCons (dVar 9) (dCons (dCall F_L_top (dCons (dVar 8) (dNil))) (dNil)))) (dgName 11)) (dFor (dItT (dTup (dCons (dC (.str (PySem.Str.ofString "even"))) (dCons (dC (.str (PySem.Str.ofString "away"))) (dNil))))) (dgName 12) (dSeq (dAsg (dCall F_L_due (dCons (dVar 9) (dCons (dVar 2) (dCons (dVar 12) (dCons (dOp dEq (dOp dMod (dCB dInt1 (dCons (dVar 10) (dNil))) (dC (.int 2))) (dC (.int 0))) (dCons (dVar 11) (dNil))))))) (dgName 13)) (dIfS (dTest (dOp dNe (dCB dRepr (dCons (dCall F_fast_shortest (dCons (dVar 3) (dCons (dVar 12) (dCons (dVar 8) (dCons (dVar 10) (dNil)))))) (dNil))) (dCB dRepr (dCons (dVar 13) (dNil))))) (dRet (dC (.bl false))) (dNext)))))))) (dRet (dC (.bl true)))))
theorem gr_rest {P : Nat} {e lo k first N : Int} {μ : Mem} {De : DEnds} (P0 : 23 ≤ P) (P1 : P ≤ 127) (e0 : -1200 ≤ e) (e1 : e ≤ 1200) (l0 : -1200 ≤ lo) (l1 : lo ≤ e) (l2 : e - 2 ≤ lo) (hP : IsP e k) (f0 : 11 ≤ first) (f1 : lo = e ∨ 2 ^ P < first) (f2 : first ≤ 2 ^ P + 1) (hk : DK N μ) (hN : N + 50 < 1000000000000) (hrt : ∀ μ', De.rt (.bl true) μ') :
    t_gr_rest De [some (.box 0), some (.int ((P : Int) + 1)), some (.int e), some (.tup [.int ((P : Int) + 1), .int lo, .int e]), some (.tup [.int (scN e k), .int (scD e k)]), some (.int first), none, none, none, none, none, none, none, none, none] μ := by
  have hp := two_pos P
  have hps : (2 : Int) ^ (P + 1) = 2 * 2 ^ P := by rw [Int.pow_succ]; omega
  have hp23 : (2 : Int) ^ 23 ≤ 2 ^ P := pow_le2 P0
  have bP : Bd 128 ((2 : Int) ^ P) := bd_pow (by omega)
  have bP1 : Bd 129 ((2 : Int) ^ (P + 1)) := bd_pow (by omega)
  have o : okf P lo e := ⟨P1, l0, l1, e1⟩
  have hct : countF P lo e = (e - lo) * 2 ^ P + 2 * 2 ^ P := by unfold countF; rw [Int.add_mul]
  unfold t_gr_rest
  walk_at "d"
  refine e_shlN (n := 2) (P + 1) (by omega) (bd_small 2 (by decide)) (by omega) ?_
  rw [Int.one_mul]
  walk_at "d"
  refine lc_inv (fun i acc μ' => acc.length = i ∧ i ≤ 4 ∧ DK (N + i) μ' ∧ ∀ x ∈ acc, ∃ m : Int, x = .int m ∧ first ≤ m ∧ m < 2 ^ (P + 1)) _ 0 [] _ ⟨rfl, by omega, hk.mono (by omega), fun x hx => nomatch hx⟩ ?_ ?_
  · rintro i x acc μ' K ex ⟨hl, h4, hk', hm⟩ hK
    have hi := (List.getElem?_eq_some_iff.mp ex).1
    rw [rngD_len] at hi
    have hi : i < 4 := hi
    walk_at "d"
    refine e_shlN (n := 2) (P + 1) (by omega) (bd_small 2 (by decide)) (by omega) ?_
    rw [Int.one_mul]
    walk_at "d"
    refine ⟨_, N + ((0 + i : Nat) : Int), rfl, by omega, bd_up (bd_sub bP1 (to_bd (x := first) (by omega) (Int.lt_of_le_of_lt f2 (Int.lt_of_lt_of_le (by omega) (pow_le2 (show P + 1 ≤ 129 by omega)))))) (by decide), hk', by omega, fun r μ1 r0 r1 hk1 => ?_⟩
    walk_at "d"
    refine ⟨by rw [sizeLine_eq]; omega, hK _ _ ⟨by rw [List.length_append, hl]; rfl, by omega, hk1.mono (by omega), fun y hy => ?_⟩⟩
    rcases List.mem_append.mp hy with hy | hy
    · exact hm y hy
    · rw [List.mem_singleton] at hy
      subst hy
      exact ⟨_, rfl, by omega, by omega⟩
  rintro acc μ1 ⟨hl, _, hk1, hm⟩
  rw [rngD_len] at hl hk1
  have hl : acc.length = 4 := hl
  have hk1 : DK (N + 4) μ1 := hk1
  walk_at "d"
  obtain ⟨L, hL⟩ : ∃ L, L = [D.int first, .int (2 ^ (P + 1) - 1)] ++ acc := ⟨_, rfl⟩
  rw [← hL]
  have hmem : ∀ x ∈ L, ∃ m : Int, x = .int m ∧ first ≤ m ∧ m < 2 ^ (P + 1) := fun x hx => by
    rw [hL] at hx
    rcases List.mem_append.mp hx with hx | hx
    · simp only [List.mem_cons, List.not_mem_nil, or_false] at hx
      rcases hx with rfl | rfl
      · exact ⟨_, rfl, by omega, by omega⟩
      · exact ⟨_, rfl, by omega, by omega⟩
    · exact hm x hx
  clear hL hm
  walk_at "d"
  refine ⟨9, N + 4, rfl, by omega, bd_small 300 (by decide), hk1, by omega, fun r μ2 r0 r1 hk2 => ?_⟩
  walk_at "d"
  obtain ⟨bN, bD⟩ := sc_bd e0 e1 hP
  obtain ⟨n0, d0⟩ := sc_pos e k
  obtain ⟨c1, c2, c3, c4, c5, c6⟩ := cut_okpr e0 e1 hP (show 1 ≤ (P : Int) + 1 + r by omega) (show (P : Int) + 1 + r ≤ 250 by omega)
  refine ⟨_, _, (P : Int) + 1 + r, rfl, n0, d0, bd_up bN (by decide), bd_up bD (by decide), by omega, by omega, ?_⟩
  have hb : (2 : Int) ^ ((P : Int) + 1 + r).toNat ≤ 2 ^ 250 := pow_le2 (by omega)
  have ok2 : okpr (cutG (scN e k) (scD e k) ((P : Int) + 1 + r)) (cutS (scN e k) (scD e k) ((P : Int) + 1 + r)) (cutH (scN e k) (scD e k) ((P : Int) + 1 + r)) := ⟨by omega, bd_up (to_bd (k := 250) (by omega) (by omega)) (by decide), by omega, by omega, by omega, by omega⟩
  generalize cutG (scN e k) (scD e k) ((P : Int) + 1 + r) = g2 at *
  generalize cutS (scN e k) (scD e k) ((P : Int) + 1 + r) = s2 at *
  generalize cutH (scN e k) (scD e k) ((P : Int) + 1 + r) = h2 at *
  walk_at "d"
  refine ⟨e, N + 5, rfl, e0, e1, hk2.mono (by omega), by omega, fun g1 s1 h1 μ3 ok1 hk3 => ?_⟩
  walk_at "d"
  refine loop_all (fun σ μ' => ∃ z8 z9 z10 z11 z12 z13 z14 : Option D, σ = [some (.box 0), some (.int ((P : Int) + 1)), some (.int e), some (.tup [.int ((P : Int) + 1), .int lo, .int e]), some (.tup [.int (scN e k), .int (scD e k)]), some (.int first), some (.lst L), some (.tup [.int e, .int g2, .int s2, .int h2]), z8, z9, z10, z11, z12, z13, z14] ∧ μ' = μ3) ⟨none, none, none, none, none, none, none, rfl, rfl⟩ ?_ ?_
  · rintro x σ μ' K hx ⟨z8, z9, z10, z11, z12, z13, z14, rfl, rfl⟩ hK
    obtain ⟨g, s, h, rfl, ok⟩ : ∃ g s h : Int, x = .tup [.int e, .int g, .int s, .int h] ∧ okpr g s h := by
      simp only [List.mem_cons, List.not_mem_nil, or_false] at hx
      rcases hx with rfl | rfl
      · exact ⟨_, _, _, rfl, ok1⟩
      · exact ⟨_, _, _, rfl, ok2⟩
    obtain ⟨bt, bd, dd0, t0⟩ := bd_top ok
    walk_at "d"
    refine loop_all (fun σ μ'' => ∃ z9 z10 z11 z12 z13 z14 : Option D, σ = [some (.box 0), some (.int ((P : Int) + 1)), some (.int e), some (.tup [.int ((P : Int) + 1), .int lo, .int e]), some (.tup [.int (scN e k), .int (scD e k)]), some (.int first), some (.lst L), some (.tup [.int e, .int g2, .int s2, .int h2]), some (.tup [.int e, .int g, .int s, .int h]), z9, z10, z11, z12, z13, z14] ∧ μ'' = μ') ⟨_, _, _, _, _, _, rfl, rfl⟩ ?_ ?_
    · rintro x σ μ'' K2 hx ⟨z9, z10, z11, z12, z13, z14, rfl, rfl⟩ hK2
      obtain ⟨m, rfl, m0, m1⟩ := hmem x hx
      have bm : Bd 130 m := bd_up (to_bd (k := 128) (by omega) (Int.lt_of_lt_of_le m1 (pow_le2 (by omega)))) (by decide)
      walk_at "d"
      refine e_shlN (n := 2) P (by omega) (bd_small 2 (by decide)) (by omega) ?_
      rw [Int.one_mul]
      refine e_mulI (mul_ok (bd_small (x := e - lo) 10 (by omega)) bP) ?_
      walk_at "d"
      refine ⟨e, g, s, h, rfl, ok, ?_⟩
      walk_at "d"
      refine ⟨m, _, _, rfl, bm, bt, bd, dd0, ?_⟩
      unfold quo
      have elp : 0 ≤ (e - lo) * 2 ^ P := Int.mul_nonneg (by omega) (Int.le_of_lt hp)
      obtain ⟨c, hc⟩ : ∃ c : Int, c = (e - lo) * 2 ^ P + m := ⟨_, rfl⟩
      have c0 : 0 ≤ c := by omega
      have cc1 : c ≤ countF P lo e := by omega
      obtain ⟨fi, fmm⟩ := fast_in (P := P) (e := e) l1 c0 cc1
      have hf : isFast P lo e e c := fi.mpr (by
        rw [show c - (e - lo) * 2 ^ P = m by omega]
        exact ⟨l1, by omega, by omega, m1, f1.imp Eq.symm (fun z => by omega)⟩)
      have hfm : partM P c = m := by rw [fmm hf]; omega
      rw [← hc]
      clear hc fi fmm elp
      have b1 : Bd 133 (2 * m - 1) := bd_sub (k := 132) (bd_mul (i := 2) (by decide) bm) (bd_small 132 (by decide))
      have b2 : Bd 133 (2 * m + 1) := bd_add (k := 132) (bd_mul (i := 2) (by decide) bm) (bd_small 132 (by decide))
      have b4 : Bd 133 (4 * m) := bd_mul (i := 3) (by decide) bm
      have a0 : 0 ≤ (2 * m - 1) * topN g s h / topD s := Int.ediv_nonneg (Int.mul_nonneg (by omega) t0) (Int.le_of_lt dd0)
      have bb0 : 0 ≤ 4 * m * topN g s h / topD s := Int.ediv_nonneg (Int.mul_nonneg (by omega) t0) (Int.le_of_lt dd0)
      have bB : Bd 1800 (4 * m * topN g s h / topD s) := bd_div (bd_up (bd_mul b4 bt) (by decide))
      have bC : Bd 1800 ((2 * m + 1) * topN g s h / topD s) := bd_div (bd_up (bd_mul b2 bt) (by decide))
      have hfast : ∀ k w, isEA w = true → fastD P lo e e g s h c k w = plD (plainD (dueN m e k (lrF w c) (urF w c) ((2 * m - 1) * topN g s h / topD s) (4 * m * topN g s h / topD s) ((2 * m + 1) * topN g s h / topD s)) k) := fun k w hw => by
        unfold fastD
        rw [if_pos ⟨hf, hw⟩, hfm]
      generalize (2 * m - 1) * topN g s h / topD s = A at *
      generalize 4 * m * topN g s h / topD s = B at *
      generalize (2 * m + 1) * topN g s h / topD s = C at *
      walk_at "d"
      refine loop_all (fun σ μ3 => ∃ z12 z13 z14 : Option D, σ = [some (.box 0), some (.int ((P : Int) + 1)), some (.int e), some (.tup [.int ((P : Int) + 1), .int lo, .int e]), some (.tup [.int (scN e k), .int (scD e k)]), some (.int first), some (.lst L), some (.tup [.int e, .int g2, .int s2, .int h2]), some (.tup [.int e, .int g, .int s, .int h]), some (.int m), some (.int c), some (.lst [.int A, .int B, .int C]), z12, z13, z14] ∧ μ3 = μ'') ⟨_, _, _, rfl, rfl⟩ ?_ ?_
      · rintro x σ μ3 K3 hx ⟨z12, z13, z14, rfl, rfl⟩ hK3
        obtain ⟨w, rfl, hw⟩ := way_ea2 hx
        walk_at "d"
        refine ⟨m, e, A, B, C, c, w, rfl, hw, by omega, by omega, bm, a0, bb0, bd_up bC (by decide), fun k hk => ?_⟩
        have hsh : (plD (plainD (dueN m e k (lrF w c) (urF w c) A B C) k)).shw := shw_pl (due_nn a0 bb0) (due_bd a0 bb0 bB bC) (bd_small 1801 (by have := place_bd (by omega) (by omega) hk; omega))
        have hfz : (plD (plainD (dueN m e k (lrF w c) (urF w c) A B C) k)).fz = true := rfl
        have hfast := hfast k w hw
        generalize plD (plainD (dueN m e k (lrF w c) (urF w c) A B C) k) = R at *
        walk_at "d"
        refine ⟨P, lo, e, e, g, s, h, c, w, rfl, o, by omega, by omega, ok, c0, cc1, fun hn => absurd ⟨hf, hw⟩ hn, fun k2 hk2 => ?_⟩
        obtain rfl := isP_uniq hk hk2
        rw [hfast]
        walk_at "d"
        refine e_repr hsh ?_
        refine e_var rfl hfz ?_
        walk_at "d"
        refine e_repr hsh ?_
        refine e_neSS ?_
        walk_at "d"
        exact hK3 _ _ ⟨_, _, _, rfl, rfl⟩
      · rintro σ μ3 ⟨z12, z13, z14, rfl, rfl⟩
        exact hK2 _ _ ⟨_, _, _, _, _, _, rfl, rfl⟩
    · rintro σ μ'' ⟨z9, z10, z11, z12, z13, z14, rfl, rfl⟩
      exact hK _ _ ⟨_, _, _, _, _, _, _, rfl, rfl⟩
  · rintro σ μ' ⟨z8, z9, z10, z11, z12, z13, z14, rfl, rfl⟩
    walk_at "d"
    exact hrt _
def F_L_great_right : DSp := fun ds μ Gd => ∃ N : Int, ds = [.box 0] ∧ DK N μ ∧ N + 100 < 1000000000000 ∧ ∀ μ', Gd (.bl true) μ'
-- _law_great_right: slots 0=_law_deck_here 1=_law_p 2=_law_exponent 3=_law_form_here 4=_law_scale_here 5=_law_first 6=_law_some 7=_law_short 8=_law_row_here 9=_law_m 10=_law_code 11=_law_quotients_here 12=_law_way 13=_law_due_here 14=_law_time; level 7; calls _law_cut, _law_draw, _law_due, _law_one, _law_quotients, _law_row, _law_scale, _law_top, fast_shortest
def t_L_great_right : DTS :=
  dSeq (dAsg (dCall F_L_one (dCons (dVar 0) (dCons (dLst (dCons (dC (.int 24)) (dCons (dC (.int 53)) (dCons (dC (.int 64)) (dCons (dC (.int 128)) (dNil)))))) (dNil)))) (dgName 1)) (dSeq (dAsg (dCall F_L_one (dCons (dVar 0) (dCons (dLst (dCons (dC (.int 1200)) (dCons (dUn dNeg (dC (.int 1200))) (dCons (dOp dSub (dCall F_L_draw (dCons (dVar 0) (dCons (dC (.int 2401)) (dNil)))) (dC (.int 1200))) (dNil))))) (dNil)))) (dgName 2)) (dSeq (dIfS (dTest (dOp dEq (dCall F_L_draw (dCons (dVar 0) (dCons (dC (.int 2)) (dNil)))) (dC (.int 0)))) (dAsg (dOp dSub (dCall F_L_draw (dCons (dVar 0) (dCons (dC (.int 61)) (dNil)))) (dC (.int 30))) (dgName 2)) (dNext)) (dSeq (dPar 3 4 (dCons (dTup (dCons (dVar 1) (dCons (dCB dMax2 (dCons (dUn dNeg (dC (.int 1200))) (dCons (dOp dSub (dVar 2) (dCall F_L_draw (dCons (dVar 0) (dCons (dC (.int 3)) (dNil))))) (dNil)))) (dCons (dVar 2) (dNil))))) (dCons (dCall F_L_scale (dCons (dVar 2) (dNil))) (dNil)))) (dSeq (dAsg (dIf (dTest (dOp dEq (dOp dIx (dVar 3) (dC (.int 1))) (dVar 2))) (dC (.int 11)) (dOp dAdd (dOp dShl (dC (.int 1)) (dOp dSub (dVar 1) (dC (.int 1)))) (dC (.int 1)))) (dgName 5)) (dSeq (dAsg (dOp dAdd (dLst (dCons (dVar 5) (dCons (dOp dSub (dOp dShl (dC (.int 1)) (dVar 1)) (dC (.int 1))) (dNil)))) (dLc (dRng1 (dCons (dC (.int 4)) (dNil))) (dgName 14) (dYes) (dOp dAdd (dVar 5) (dCall F_L_draw (dCons (dVar 0) (dCons (dOp dSub (dOp dShl (dC (.int 1)) (dVar 1)) (dVar 5)) (dNil))))) [14])) (dgName 6)) (dSeq (dAsg (dOp dAdd (dTup (dCons (dVar 2) (dNil))) (dCall F_L_cut (dCons (dOp dIx (dVar 4) (dC (.int 0))) (dCons (dOp dIx (dVar 4) (dC (.int 1))) (dCons (dOp dAdd (dVar 1) (dCall F_L_draw (dCons (dVar 0) (dCons (dC (.int 9)) (dNil))))) (dNil)))))) (dgName 7)) (dSeq (dFor (dItT (dTup (dCons (dCall F_L_row (dCons (dVar 0) (dCons (dVar 2) (dNil)))) (dCons (dVar 7) (dNil))))) (dgName 8) (dFor (dItL (dVar 6)) (dgName 9) (dSeq (dAsg (dOp dAdd (dOp dMul (dOp dSub (dVar 2) (dOp dIx (dVar 3) (dC (.int 1)))) (dOp dShl (dC (.int 1)) (dOp dSub (dVar 1) (dC (.int 1))))) (dVar 9)) (dgName 10)) (dSeq (dAsg (dCall F_L_quotients (dCons (dVar 9) (dCons (dCall F_L_top (dCons (dVar 8) (dNil))) (dNil)))) (dgName 11)) (dFor (dItT (dTup (dCons (dC (.str (PySem.Str.ofString "even"))) (dCons (dC (.str (PySem.Str.ofString "away"))) (dNil))))) (dgName 12) (dSeq (dAsg (dCall F_L_due (dCons (dVar 9) (dCons (dVar 2) (dCons (dVar 12) (dCons (dOp dEq (dOp dMod (dCB dInt1 (dCons (dVar 10) (dNil))) (dC (.int 2))) (dC (.int 0))) (dCons (dVar 11) (dNil))))))) (dgName 13)) (dIfS (dTest (dOp dNe (dCB dRepr (dCons (dCall F_fast_shortest (dCons (dVar 3) (dCons (dVar 12) (dCons (dVar 8) (dCons (dVar 10) (dNil)))))) (dNil))) (dCB dRepr (dCons (dVar 13) (dNil))))) (dRet (dC (.bl false))) (dNext)))))))) (dRet (dC (.bl true))))))))))
theorem cnt_L_great_right : ∀ ds μ Gd, F_L_great_right ds μ Gd → ds.length = 1 := by
  rintro ds μ Gd ⟨N, rfl, _⟩; rfl
theorem ok_L_great_right : ∀ ds μ Gd, F_L_great_right ds μ Gd → t_L_great_right { nx := fun _ μ' => Gd .non μ', rt := Gd } (startD 15 ds) μ := by
  rintro ds μ Gd ⟨N, rfl, hk, hN, q⟩
  show t_L_great_right _ [some (.box 0), none, none, none, none, none, none, none, none, none, none, none, none, none, none] _
  unfold t_L_great_right
  walk_at "d"
  refine ⟨_, N, rfl, by exact (show (0 : Nat) < 4 by decide), by exact (show (4 : Nat) < 1000000000 by decide), hk, by omega, fun d μ1 hd hk1 => ?_⟩
  obtain ⟨P, rfl, P0, P1⟩ : ∃ P : Nat, d = .int ((P : Int) + 1) ∧ 23 ≤ P ∧ P ≤ 127 := by
    simp only [List.mem_cons, List.not_mem_nil, or_false] at hd
    rcases hd with rfl | rfl | rfl | rfl
    · exact ⟨23, rfl, by decide, by decide⟩
    · exact ⟨52, rfl, by decide, by decide⟩
    · exact ⟨63, rfl, by decide, by decide⟩
    · exact ⟨127, rfl, by decide, by decide⟩
  have hp23 : (2 : Int) ^ 23 ≤ 2 ^ P := pow_le2 P0
  walk_at "d"
  refine ⟨2401, N + 1, rfl, by omega, bd_small 300 (by decide), hk1, by omega, fun r μ2 r0 r1 hk2 => ?_⟩
  walk_at "d"
  refine ⟨_, N + 1 + 1, rfl, by exact (show (0 : Nat) < 3 by decide), by exact (show (3 : Nat) < 1000000000 by decide), hk2, by omega, fun d μ3 hd hk3 => ?_⟩
  obtain ⟨e', rfl, e0', e1'⟩ : ∃ e : Int, d = .int e ∧ -1200 ≤ e ∧ e ≤ 1200 := by
    simp only [List.mem_cons, List.not_mem_nil, or_false] at hd
    rcases hd with rfl | rfl | rfl
    all_goals first | exact ⟨_, rfl, by decide, by decide⟩ | exact ⟨_, rfl, by omega, by omega⟩
  walk_at "d"
  refine ⟨2, N + 3, rfl, by omega, bd_small 300 (by decide), hk3.mono (by omega), by omega, fun r2 μ4 r20 r21 hk4 => ?_⟩
  have hk4 : DK (N + 4) μ4 := hk4.mono (by omega)
  walk_at "d"
  refine e_if (fun z => ?_) (fun z => ?_)
  · walk_at "d"
    refine ⟨61, N + 4, rfl, by omega, bd_small 300 (by decide), hk4, by omega, fun x μ5 x0 x1 hk5 => ?_⟩
    walk_at "d"
    obtain ⟨e, he⟩ : ∃ e, e = x - 30 := ⟨_, rfl⟩
    rw [← he]
    have e0 : -1200 ≤ e := by omega
    have e1 : e ≤ 1200 := by omega
    have hk5 : DK (N + 5) μ5 := hk5.mono (by omega)
    clear he x0 x1
    refine ⟨3, N + 5, rfl, by omega, bd_small 300 (by decide), hk5, by omega, fun r3 μ6 r30 r31 hk6 => ?_⟩
    have hk6 : DK (N + 6) μ6 := hk6.mono (by omega)
    walk_at "d"
    obtain ⟨lo, hlo⟩ : ∃ lo, lo = (if e - r3 > -1200 then e - r3 else -1200) := ⟨_, rfl⟩
    rw [← hlo]
    have l0 : -1200 ≤ lo := by rw [hlo]; split <;> omega
    have l1 : lo ≤ e := by rw [hlo]; split <;> omega
    have l2 : e - 2 ≤ lo := by rw [hlo]; split <;> omega
    clear hlo
    refine ⟨e, rfl, e0, e1, fun k hP => ?_⟩
    walk_at "d"
    refine e_if (fun w => ?_) (fun w => ?_)
    · refine e_c ?_
      refine e_gname ?_
      exact gr_rest P0 P1 e0 e1 l0 l1 l2 hP (by decide) (.inl w) (by omega) hk6 (by omega) q
    · walk_at "d"
      refine e_shlN (n := 2) P (by omega) (bd_small 2 (by decide)) (by omega) ?_
      rw [Int.one_mul]
      refine e_c ?_
      refine e_addI ?_
      refine e_gname ?_
      exact gr_rest P0 P1 e0 e1 l0 l1 l2 hP (by omega) (.inr (by omega)) (by omega) hk6 (by omega) q
  · walk_at "d"
    obtain ⟨e, he⟩ : ∃ e, e = e' := ⟨_, rfl⟩
    rw [← he]
    obtain ⟨μ5, hμ⟩ : ∃ μ5, μ5 = μ4 := ⟨_, rfl⟩
    rw [← hμ] at hk4 ⊢
    have e0 : -1200 ≤ e := by omega
    have e1 : e ≤ 1200 := by omega
    have hk5 : DK (N + 5) μ5 := hk4.mono (by omega)
    clear he hμ
    refine ⟨3, N + 5, rfl, by omega, bd_small 300 (by decide), hk5, by omega, fun r3 μ6 r30 r31 hk6 => ?_⟩
    have hk6 : DK (N + 6) μ6 := hk6.mono (by omega)
    walk_at "d"
    obtain ⟨lo, hlo⟩ : ∃ lo, lo = (if e - r3 > -1200 then e - r3 else -1200) := ⟨_, rfl⟩
    rw [← hlo]
    have l0 : -1200 ≤ lo := by rw [hlo]; split <;> omega
    have l1 : lo ≤ e := by rw [hlo]; split <;> omega
    have l2 : e - 2 ≤ lo := by rw [hlo]; split <;> omega
    clear hlo
    refine ⟨e, rfl, e0, e1, fun k hP => ?_⟩
    walk_at "d"
    refine e_if (fun w => ?_) (fun w => ?_)
    · refine e_c ?_
      refine e_gname ?_
      exact gr_rest P0 P1 e0 e1 l0 l1 l2 hP (by decide) (.inl w) (by omega) hk6 (by omega) q
    · walk_at "d"
      refine e_shlN (n := 2) P (by omega) (bd_small 2 (by decide)) (by omega) ?_
      rw [Int.one_mul]
      refine e_c ?_
      refine e_addI ?_
      refine e_gname ?_
      exact gr_rest P0 P1 e0 e1 l0 l1 l2 hP (by omega) (.inr (by omega)) (by omega) hk6 (by omega) q
def F_law : DSp := fun ds μ Gd => ∃ ns : List Int, ds = [scr ns] ∧ ns.length ≤ 63 ∧ μ = [] ∧ Gd (.bl true) []
-- law: slots 0=_law_script 1=_law_deck_here 2=_law_turn 3=_law_form_here 4=_law_time 5=_law_exponent; level 8; calls _law_deck, _law_draw, _law_form, _law_great_right, _law_right, _law_row
def t_law : DTS :=
  dDeck 1 0 (dSeq (dFor (dRng1 (dCons (dC (.int 3)) (dNil))) (dgName 2) (dSeq (dAsg (dCall F_L_form (dCons (dVar 1) (dNil))) (dgName 3)) (dSeq (dIfS (dTest (dOp dGt (dVar 2) (dC (.int 0)))) (dAsg (dTup (dCons (dOp dAdd (dC (.int 4)) (dCall F_L_draw (dCons (dVar 1) (dCons (dC (.int 2)) (dNil))))) (dCons (dOp dIx (dVar 3) (dC (.int 1))) (dCons (dOp dIx (dVar 3) (dC (.int 2))) (dNil))))) (dgName 3)) (dNext)) (dFor (dRng1 (dCons (dC (.int 4)) (dNil))) (dgName 4) (dSeq (dAsg (dOp dAdd (dOp dSub (dOp dIx (dVar 3) (dC (.int 1))) (dC (.int 1))) (dCall F_L_draw (dCons (dVar 1) (dCons (dOp dAdd (dOp dSub (dOp dIx (dVar 3) (dC (.int 2))) (dOp dIx (dVar 3) (dC (.int 1)))) (dC (.int 3))) (dNil))))) (dgName 5)) (dIfS (dNotT (dTest (dCall F_L_right (dCons (dVar 3) (dCons (dCall F_L_row (dCons (dVar 1) (dCons (dVar 5) (dNil)))) (dNil)))))) (dRet (dC (.bl false))) (dNext))))))) (dRet (dCall F_L_great_right (dCons (dVar 1) (dNil)))))

theorem cnt_law : ∀ ds μ Gd, F_law ds μ Gd → ds.length = 1 := by
  rintro ds μ Gd ⟨i, rfl, _⟩; rfl
theorem ok_law : ∀ ds μ Gd, F_law ds μ Gd → t_law { nx := fun _ μ' => Gd .non μ', rt := Gd } (startD 6 ds) μ := by
  rintro ds μ Gd ⟨ns, rfl, hl, rfl, q⟩
  show t_law _ [some (scr ns), none, none, none, none, none] _
  unfold t_law
  refine ⟨ns, rfl, hl, rfl, by decide, ?_⟩
  show _
  walk_at "d"
  refine loop_inv (fun k σ μ => ∃ (z2 z3 z4 z5 : Option D), σ = [some (scr ns), some (.box 0), z2, z3, z4, z5] ∧ DK (100 * k) μ) _ 0 _ _ ⟨none, none, none, none, rfl, (dk_new ns hl).mono (by omega)⟩ ?_ ?_
  · rintro k x σ μ3 K e ⟨z2, z3, z4, z5, rfl, hk3⟩ hK
    obtain ⟨hi, rfl⟩ := rng_at8 e
    have hi : k < 3 := hi
    rw [Nat.zero_add] at hk3 hK
    have inner : ∀ (P : Nat) (lo hi : Int) (μ : Mem), 3 ≤ P → P ≤ 6 → -8 ≤ lo → lo ≤ 4 → lo ≤ hi → hi ≤ lo + 3 → DK (100 * k + 10) μ → ∀ De : DEnds, De.nx = K → ∀ x4 x5 : Option D, dFor (dRng1 (dCons (dC (.int 4)) (dNil))) (dgName 4) (dSeq (dAsg (dOp dAdd (dOp dSub (dOp dIx (dVar 3) (dC (.int 1))) (dC (.int 1))) (dCall F_L_draw (dCons (dVar 1) (dCons (dOp dAdd (dOp dSub (dOp dIx (dVar 3) (dC (.int 2))) (dOp dIx (dVar 3) (dC (.int 1)))) (dC (.int 3))) (dNil))))) (dgName 5)) (dIfS (dNotT (dTest (dCall F_L_right (dCons (dVar 3) (dCons (dCall F_L_row (dCons (dVar 1) (dCons (dVar 5) (dNil)))) (dNil)))))) (dRet (dC (.bl false))) (dNext))) De [some (scr ns), some (.box 0), some (.int (0 + (k : Int))), some (fm P lo hi), x4, x5] μ := fun P lo hi μ P0 P1 l0 l4 l1 h1 hk De hDe x4 x5 => by
      unfold fm
      walk_at "d"
      refine loop_inv (fun j σ μ => ∃ (z4 z5 : Option D), σ = [some (scr ns), some (.box 0), some (.int (0 + (k : Int))), some (.tup [.int ((P : Int) + 1), .int lo, .int hi]), z4, z5] ∧ DK (100 * k + 10 + 10 * j) μ) _ 0 _ _ ⟨x4, x5, rfl, hk.mono (by omega)⟩ ?_ ?_
      · rintro j y σ μ4 K2 ey ⟨z4, z5, rfl, hk4⟩ hK2
        obtain ⟨hj, rfl⟩ := rng_at8 ey
        have hj : j < 4 := hj
        rw [Nat.zero_add] at hk4 hK2
        walk_at "d"
        refine ⟨_, 100 * k + 10 + 10 * j, rfl, by omega, bd_up (bd_small 20 (by omega)) (by decide), hk4, by omega, fun r μ5 r0 r1 hk5 => ?_⟩
        walk_at "d"
        refine ⟨_, 100 * k + 10 + 10 * j + 1, rfl, by omega, by omega, hk5, by omega, fun g s h μ6 og hk6 => ?_⟩
        walk_at "d"
        refine ⟨P, lo, hi, _, g, s, h, rfl, P1, l0, l1, h1, l4, by omega, by omega, og, ?_⟩
        walk_at "d"
        exact hK2 _ _ ⟨_, _, rfl, hk6.mono (by omega)⟩
      · rintro σ μ4 ⟨z4, z5, rfl, hk4⟩
        rw [hDe]
        refine hK _ _ ⟨_, _, _, _, rfl, hk4.mono ?_⟩
        rw [rngD_len]
        show (100 * (k : Int) + 10 + 10 * ((0 + 4 : Nat) : Int)) ≤ _
        omega
    walk_at "d"
    refine ⟨100 * k, rfl, hk3, by omega, fun P lo hi' μ4 P0 P1 l0 l4 l1 h1 hk4 => ?_⟩
    have i1 := inner P lo hi'
    unfold fm at i1 ⊢
    walk_at "d"
    refine e_if (fun z => ?_) (fun z => ?_)
    · walk_at "d"
      refine ⟨2, 100 * k + 3, rfl, by omega, bd_small 300 (by decide), hk4, by omega, fun r μ5 r0 r1 hk5 => ?_⟩
      have i2 := inner (3 + r).toNat lo hi' μ5 (by omega) (by omega) l0 l4 l1 h1 (hk5.mono (by omega))
      unfold fm at i2
      rw [show (((3 + r).toNat : Nat) : Int) + 1 = 4 + r by omega] at i2
      refine e_addI ?_
      refine e_cons ?_
      refine e_op ?_
      refine e_var rfl rfl ?_
      refine e_c ?_
      refine e_ix rfl rfl ?_
      refine e_cons ?_
      refine e_op ?_
      refine e_var rfl rfl ?_
      refine e_c ?_
      refine e_ix rfl rfl ?_
      refine e_nil ?_
      refine ⟨by rw [sizeLine_eq]; show (3 : Nat) ≤ _; decide, ?_⟩
      refine e_gname ?_
      exact i2 _ rfl _ _
    · refine e_next ?_
      exact i1 μ4 P0 P1 l0 l4 l1 h1 (hk4.mono (by omega)) _ rfl _ _
  · rintro σ μ3 ⟨z2, z3, z4, z5, rfl, hk3⟩
    walk_at "d"
    refine ⟨_, rfl, hk3, ?_, fun μ' => ⟨true, rfl, q⟩⟩
    rw [rngD_len]
    decide
theorem law_true : ∀ (ns : List Int), ns.length ≤ 63 → ∀ Q : D → Mem → Prop, (∀ d μ, d = .bl true → Q d μ) → F_law [scr ns] [] Q := fun ns hl Q h => ⟨ns, rfl, hl, rfl, h _ _ rfl⟩

def topS (i : Nat) : Stmt := PySem.Challenge.pw_numbertexts_k78_fast_decimals_by_any_row.main.body.getD i (.Pass ⟨0, 0, 0, 0⟩)
abbrev s_is_whole : Stmt := topS 1
abbrev N_is_whole : List Str := ["value"]
theorem sc_is_whole : FnScope N_is_whole ["value"] (defScope s_is_whole) := ⟨rfl, rfl, rfl, by decide +kernel, rfl, by decide +kernel, by decide +kernel⟩
abbrev s_raised : Stmt := topS 4
abbrev N_raised : List Str := ["base", "exponent", "result", "place"]
theorem sc_raised : FnScope N_raised ["base", "exponent"] (defScope s_raised) := ⟨rfl, rfl, rfl, by decide +kernel, rfl, by decide +kernel, by decide +kernel⟩
abbrev s_shifted : Stmt := topS 5
abbrev N_shifted : List Str := ["n", "shift"]
theorem sc_shifted : FnScope N_shifted ["n", "shift"] (defScope s_shifted) := ⟨rfl, rfl, rfl, by decide +kernel, rfl, by decide +kernel, by decide +kernel⟩
abbrev s_tens_below : Stmt := topS 6
abbrev N_tens_below : List Str := ["k"]
theorem sc_tens_below : FnScope N_tens_below ["k"] (defScope s_tens_below) := ⟨rfl, rfl, rfl, by decide +kernel, rfl, by decide +kernel, by decide +kernel⟩
abbrev s_log_of : Stmt := topS 7
abbrev N_log_of : List Str := ["num", "den", "k", "fits"]
theorem sc_log_of : FnScope N_log_of ["num", "den"] (defScope s_log_of) := ⟨rfl, rfl, rfl, by decide +kernel, rfl, by decide +kernel, by decide +kernel⟩
abbrev s_plain_decimal : Stmt := topS 9
abbrev N_plain_decimal : List Str := ["decimal", "d", "q"]
theorem sc_plain_decimal : FnScope N_plain_decimal ["decimal"] (defScope s_plain_decimal) := ⟨rfl, rfl, rfl, by decide +kernel, rfl, by decide +kernel, by decide +kernel⟩
abbrev s_count_of : Stmt := topS 14
abbrev N_count_of : List Str := ["form", "p", "low", "high"]
theorem sc_count_of : FnScope N_count_of ["form"] (defScope s_count_of) := ⟨rfl, rfl, rfl, by decide +kernel, rfl, by decide +kernel, by decide +kernel⟩
abbrev s_parts_at : Stmt := topS 16
abbrev N_parts_at : List Str := ["form", "code", "p", "low", "_", "above"]
theorem sc_parts_at : FnScope N_parts_at ["form", "code"] (defScope s_parts_at) := ⟨rfl, rfl, rfl, by decide +kernel, rfl, by decide +kernel, by decide +kernel⟩
abbrev s_rounded_by : Stmt := topS 20
abbrev N_rounded_by : List Str := ["way", "n", "d", "whole", "rest"]
theorem sc_rounded_by : FnScope N_rounded_by ["way", "n", "d"] (defScope s_rounded_by) := ⟨rfl, rfl, rfl, by decide +kernel, rfl, by decide +kernel, by decide +kernel⟩
abbrev s_fast_span : Stmt := topS 28
abbrev N_fast_span : List Str := ["form", "exponent", "p", "least", "greatest", "low"]
theorem sc_fast_span : FnScope N_fast_span ["form", "exponent"] (defScope s_fast_span) := ⟨rfl, rfl, rfl, by decide +kernel, rfl, by decide +kernel, by decide +kernel⟩
abbrev s_L_deck : Stmt := topS 34
abbrev N_L_deck : List Str := ["_law_script", "_law_cell"]
theorem sc_L_deck : FnScope N_L_deck ["_law_script"] (defScope s_L_deck) := ⟨rfl, rfl, rfl, by decide +kernel, rfl, by decide +kernel, by decide +kernel⟩
abbrev s_L_draw : Stmt := topS 35
abbrev N_L_draw : List Str := ["_law_deck_here", "_law_many", "_law_cell", "_law_place_here", "_law_mixed"]
theorem sc_L_draw : FnScope N_L_draw ["_law_deck_here", "_law_many"] (defScope s_L_draw) := ⟨rfl, rfl, rfl, by decide +kernel, rfl, by decide +kernel, by decide +kernel⟩
abbrev s_L_ten : Stmt := topS 37
abbrev N_L_ten : List Str := ["_law_power", "_law_found", "_law_time"]
theorem sc_L_ten : FnScope N_L_ten ["_law_power"] (defScope s_L_ten) := ⟨rfl, rfl, rfl, by decide +kernel, rfl, by decide +kernel, by decide +kernel⟩
abbrev s_L_binary : Stmt := topS 38
abbrev N_L_binary : List Str := ["_law_m", "_law_e"]
theorem sc_L_binary : FnScope N_L_binary ["_law_m", "_law_e"] (defScope s_L_binary) := ⟨rfl, rfl, rfl, by decide +kernel, rfl, by decide +kernel, by decide +kernel⟩
abbrev s_L_cut : Stmt := topS 41
abbrev N_L_cut : List Str := ["_law_num", "_law_den", "_law_bits", "_law_s", "_law_shift", "_law_whole", "_law_part"]
theorem sc_L_cut : FnScope N_L_cut ["_law_num", "_law_den", "_law_bits"] (defScope s_L_cut) := ⟨rfl, rfl, rfl, by decide +kernel, rfl, by decide +kernel, by decide +kernel⟩
abbrev s_L_fast : Stmt := topS 42
abbrev N_L_fast : List Str := ["_law_form_here", "_law_exponent", "_law_p", "_law_low", "_law_high", "_law_m"]
theorem sc_L_fast : FnScope N_L_fast ["_law_form_here", "_law_exponent"] (defScope s_L_fast) := ⟨rfl, rfl, rfl, by decide +kernel, rfl, by decide +kernel, by decide +kernel⟩
abbrev s_L_quotients : Stmt := topS 44
abbrev N_L_quotients : List Str := ["_law_m", "_law_value", "_law_num", "_law_den"]
theorem sc_L_quotients : FnScope N_L_quotients ["_law_m", "_law_value"] (defScope s_L_quotients) := ⟨rfl, rfl, rfl, by decide +kernel, rfl, by decide +kernel, by decide +kernel⟩
abbrev s_L_plain : Stmt := topS 47
abbrev N_L_plain : List Str := ["_law_d", "_law_q"]
theorem sc_L_plain : FnScope N_L_plain ["_law_d", "_law_q"] (defScope s_L_plain) := ⟨rfl, rfl, rfl, by decide +kernel, rfl, by decide +kernel, by decide +kernel⟩
abbrev s_is_between : Stmt := topS 2
abbrev N_is_between : List Str := ["value", "least", "greatest"]
theorem sc_is_between : FnScope N_is_between ["value", "least", "greatest"] (defScope s_is_between) := ⟨rfl, rfl, rfl, by decide +kernel, rfl, by decide +kernel, by decide +kernel⟩
abbrev s_fraction_of : Stmt := topS 10
abbrev N_fraction_of : List Str := ["decimal", "d", "q"]
theorem sc_fraction_of : FnScope N_fraction_of ["decimal"] (defScope s_fraction_of) := ⟨rfl, rfl, rfl, by decide +kernel, rfl, by decide +kernel, by decide +kernel⟩
abbrev s_exponent_at : Stmt := topS 18
abbrev N_exponent_at : List Str := ["form", "num", "den", "p", "low", "high"]
theorem sc_exponent_at : FnScope N_exponent_at ["form", "num", "den"] (defScope s_exponent_at) := ⟨rfl, rfl, rfl, by decide +kernel, rfl, by decide +kernel, by decide +kernel⟩
abbrev s_greatest_read : Stmt := topS 21
abbrev N_greatest_read : List Str := ["form", "way", "beyond"]
theorem sc_greatest_read : FnScope N_greatest_read ["form", "way"] (defScope s_greatest_read) := ⟨rfl, rfl, rfl, by decide +kernel, rfl, by decide +kernel, by decide +kernel⟩
abbrev s_place_of : Stmt := topS 25
abbrev N_place_of : List Str := ["exponent"]
theorem sc_place_of : FnScope N_place_of ["exponent"] (defScope s_place_of) := ⟨rfl, rfl, rfl, by decide +kernel, rfl, by decide +kernel, by decide +kernel⟩
abbrev s_top_of : Stmt := topS 27
abbrev N_top_of : List Str := ["row", "_", "g", "s", "h"]
theorem sc_top_of : FnScope N_top_of ["row"] (defScope s_top_of) := ⟨rfl, rfl, rfl, by decide +kernel, rfl, by decide +kernel, by decide +kernel⟩
abbrev s_L_one : Stmt := topS 36
abbrev N_L_one : List Str := ["_law_deck_here", "_law_items"]
theorem sc_L_one : FnScope N_L_one ["_law_deck_here", "_law_items"] (defScope s_L_one) := ⟨rfl, rfl, rfl, by decide +kernel, rfl, by decide +kernel, by decide +kernel⟩
abbrev s_L_place : Stmt := topS 39
abbrev N_L_place : List Str := ["_law_exponent", "_law_num", "_law_den", "_law_k"]
theorem sc_L_place : FnScope N_L_place ["_law_exponent"] (defScope s_L_place) := ⟨rfl, rfl, rfl, by decide +kernel, rfl, by decide +kernel, by decide +kernel⟩
abbrev s_L_top : Stmt := topS 43
abbrev N_L_top : List Str := ["_law_row_here"]
theorem sc_L_top : FnScope N_L_top ["_law_row_here"] (defScope s_L_top) := ⟨rfl, rfl, rfl, by decide +kernel, rfl, by decide +kernel, by decide +kernel⟩
abbrev s_L_form : Stmt := topS 45
abbrev N_L_form : List Str := ["_law_deck_here", "_law_p", "_law_low"]
theorem sc_L_form : FnScope N_L_form ["_law_deck_here"] (defScope s_L_form) := ⟨rfl, rfl, rfl, by decide +kernel, rfl, by decide +kernel, by decide +kernel⟩
abbrev s_value_of : Stmt := topS 15
abbrev N_value_of : List Str := ["form", "code"]
theorem sc_value_of : FnScope N_value_of ["form", "code"] (defScope s_value_of) := ⟨rfl, rfl, rfl, by decide +kernel, rfl, by decide +kernel, by decide +kernel⟩
abbrev s_rough_position : Stmt := topS 19
abbrev N_rough_position : List Str := ["form", "num", "den", "p", "low", "_", "e"]
theorem sc_rough_position : FnScope N_rough_position ["form", "num", "den"] (defScope s_rough_position) := ⟨rfl, rfl, rfl, by decide +kernel, rfl, by decide +kernel, by decide +kernel⟩
abbrev s_scale_of : Stmt := topS 26
abbrev N_scale_of : List Str := ["exponent", "up", "down", "num", "den"]
theorem sc_scale_of : FnScope N_scale_of ["exponent"] (defScope s_scale_of) := ⟨rfl, rfl, rfl, by decide +kernel, rfl, by decide +kernel, by decide +kernel⟩
abbrev s_L_scale : Stmt := topS 40
abbrev N_L_scale : List Str := ["_law_exponent", "_law_num", "_law_den", "_law_k"]
theorem sc_L_scale : FnScope N_L_scale ["_law_exponent"] (defScope s_L_scale) := ⟨rfl, rfl, rfl, by decide +kernel, rfl, by decide +kernel, by decide +kernel⟩
abbrev s_read_fraction : Stmt := topS 22
abbrev N_read_fraction : List Str := ["form", "way", "num", "den", "n", "d"]
theorem sc_read_fraction : FnScope N_read_fraction ["form", "way", "num", "den"] (defScope s_read_fraction) := ⟨rfl, rfl, rfl, by decide +kernel, rfl, by decide +kernel, by decide +kernel⟩
abbrev s_fast_number : Stmt := topS 29
abbrev N_fast_number : List Str := ["form", "row", "code", "m", "e", "low", "high"]
theorem sc_fast_number : FnScope N_fast_number ["form", "row", "code"] (defScope s_fast_number) := ⟨rfl, rfl, rfl, by decide +kernel, rfl, by decide +kernel, by decide +kernel⟩
abbrev s_nearest_by : Stmt := topS 31
abbrev N_nearest_by : List Str := ["exponent", "m", "doubled", "num", "den"]
theorem sc_nearest_by : FnScope N_nearest_by ["exponent", "m", "doubled"] (defScope s_nearest_by) := ⟨rfl, rfl, rfl, by decide +kernel, rfl, by decide +kernel, by decide +kernel⟩
abbrev s_L_row : Stmt := topS 46
abbrev N_L_row : List Str := ["_law_deck_here", "_law_exponent", "_law_num", "_law_den", "_law_bits", "_law_g", "_law_s", "_law_h", "_law_way"]
theorem sc_L_row : FnScope N_L_row ["_law_deck_here", "_law_exponent"] (defScope s_L_row) := ⟨rfl, rfl, rfl, by decide +kernel, rfl, by decide +kernel, by decide +kernel⟩
abbrev s_L_due : Stmt := topS 48
abbrev N_L_due : List Str := ["_law_m", "_law_e", "_law_way", "_law_is_even", "_law_quotients_here", "_law_num", "_law_den", "_law_lower", "_law_middle", "_law_upper", "_law_first", "_law_last", "_law_tens", "_law_some", "_law_n"]
theorem sc_L_due : FnScope N_L_due ["_law_m", "_law_e", "_law_way", "_law_is_even", "_law_quotients_here"] (defScope s_L_due) := ⟨rfl, rfl, rfl, by decide +kernel, rfl, by decide +kernel, by decide +kernel⟩
abbrev s_end_of : Stmt := topS 30
abbrev N_end_of : List Str := ["form", "way", "exponent", "half", "code", "num", "den", "up", "down"]
theorem sc_end_of : FnScope N_end_of ["form", "way", "exponent", "half", "code"] (defScope s_end_of) := ⟨rfl, rfl, rfl, by decide +kernel, rfl, by decide +kernel, by decide +kernel⟩
abbrev s_fast_shortest : Stmt := topS 32
abbrev N_fast_shortest : List Str := ["form", "way", "row", "code", "m", "exponent", "num", "den", "first", "last", "is_whole", "is_read", "n"]
theorem sc_fast_shortest : FnScope N_fast_shortest ["form", "way", "row", "code"] (defScope s_fast_shortest) := ⟨rfl, rfl, rfl, by decide +kernel, rfl, by decide +kernel, by decide +kernel⟩
abbrev s_L_right : Stmt := topS 49
abbrev N_L_right : List Str := ["_law_form_here", "_law_row_here", "_law_p", "_law_low", "_law_high", "_law_some", "_law_top_here", "_law_code", "_law_m", "_law_way", "_law_due_here"]
theorem sc_L_right : FnScope N_L_right ["_law_form_here", "_law_row_here"] (defScope s_L_right) := ⟨rfl, rfl, rfl, by decide +kernel, rfl, by decide +kernel, by decide +kernel⟩
abbrev s_L_great_right : Stmt := topS 50
abbrev N_L_great_right : List Str := ["_law_deck_here", "_law_p", "_law_exponent", "_law_form_here", "_law_scale_here", "_law_first", "_law_some", "_law_short", "_law_row_here", "_law_m", "_law_code", "_law_quotients_here", "_law_way", "_law_due_here", "_law_time"]
theorem sc_L_great_right : FnScope N_L_great_right ["_law_deck_here"] (defScope s_L_great_right) := ⟨rfl, rfl, rfl, by decide +kernel, rfl, by decide +kernel, by decide +kernel⟩
abbrev s_law : Stmt := topS 51
abbrev N_law : List Str := ["_law_script", "_law_deck_here", "_law_turn", "_law_form_here", "_law_time", "_law_exponent"]
theorem sc_law : FnScope N_law ["_law_script"] (defScope s_law) := ⟨rfl, rfl, rfl, by decide +kernel, rfl, by decide +kernel, by decide +kernel⟩
structure Tx (K : PySem.W.Frag) (mg : Str → Option Value) : Prop where
  m_abs : mg "abs" = none
  m_bool : mg "bool" = none
  m_int : mg "int" = none
  m_isinstance : mg "isinstance" = none
  m_len : mg "len" = none
  m_max : mg "max" = none
  m_min : mg "min" = none
  m_range : mg "range" = none
  m_repr : mg "repr" = none
  m_reversed : mg "reversed" = none
  c_LEAST_FAST : ∃ t, mg "LEAST_FAST" = some (.int 11 t)
  f_is_whole : Dfn K mg "is_whole" s_is_whole ["value"]
  f_raised : Dfn K mg "raised" s_raised ["base", "exponent"]
  f_shifted : Dfn K mg "shifted" s_shifted ["n", "shift"]
  f_tens_below : Dfn K mg "tens_below" s_tens_below ["k"]
  f_log_of : Dfn K mg "log_of" s_log_of ["num", "den"]
  f_plain_decimal : Dfn K mg "plain_decimal" s_plain_decimal ["decimal"]
  f_count_of : Dfn K mg "count_of" s_count_of ["form"]
  f_parts_at : Dfn K mg "parts_at" s_parts_at ["form", "code"]
  f_rounded_by : Dfn K mg "rounded_by" s_rounded_by ["way", "n", "d"]
  f_fast_span : Dfn K mg "fast_span" s_fast_span ["form", "exponent"]
  f_L_deck : Dfn K mg "_law_deck" s_L_deck ["_law_script"]
  f_L_draw : Dfn K mg "_law_draw" s_L_draw ["_law_deck_here", "_law_many"]
  f_L_ten : Dfn K mg "_law_ten" s_L_ten ["_law_power"]
  f_L_binary : Dfn K mg "_law_binary" s_L_binary ["_law_m", "_law_e"]
  f_L_cut : Dfn K mg "_law_cut" s_L_cut ["_law_num", "_law_den", "_law_bits"]
  f_L_fast : Dfn K mg "_law_fast" s_L_fast ["_law_form_here", "_law_exponent"]
  f_L_quotients : Dfn K mg "_law_quotients" s_L_quotients ["_law_m", "_law_value"]
  f_L_plain : Dfn K mg "_law_plain" s_L_plain ["_law_d", "_law_q"]
  f_is_between : Dfn K mg "is_between" s_is_between ["value", "least", "greatest"]
  f_fraction_of : Dfn K mg "fraction_of" s_fraction_of ["decimal"]
  f_exponent_at : Dfn K mg "exponent_at" s_exponent_at ["form", "num", "den"]
  f_greatest_read : Dfn K mg "greatest_read" s_greatest_read ["form", "way"]
  f_place_of : Dfn K mg "place_of" s_place_of ["exponent"]
  f_top_of : Dfn K mg "top_of" s_top_of ["row"]
  f_L_one : Dfn K mg "_law_one" s_L_one ["_law_deck_here", "_law_items"]
  f_L_place : Dfn K mg "_law_place" s_L_place ["_law_exponent"]
  f_L_top : Dfn K mg "_law_top" s_L_top ["_law_row_here"]
  f_L_form : Dfn K mg "_law_form" s_L_form ["_law_deck_here"]
  f_value_of : Dfn K mg "value_of" s_value_of ["form", "code"]
  f_rough_position : Dfn K mg "rough_position" s_rough_position ["form", "num", "den"]
  f_scale_of : Dfn K mg "scale_of" s_scale_of ["exponent"]
  f_L_scale : Dfn K mg "_law_scale" s_L_scale ["_law_exponent"]
  f_read_fraction : Dfn K mg "read_fraction" s_read_fraction ["form", "way", "num", "den"]
  f_fast_number : Dfn K mg "fast_number" s_fast_number ["form", "row", "code"]
  f_nearest_by : Dfn K mg "nearest_by" s_nearest_by ["exponent", "m", "doubled"]
  f_L_row : Dfn K mg "_law_row" s_L_row ["_law_deck_here", "_law_exponent"]
  f_L_due : Dfn K mg "_law_due" s_L_due ["_law_m", "_law_e", "_law_way", "_law_is_even", "_law_quotients_here"]
  f_end_of : Dfn K mg "end_of" s_end_of ["form", "way", "exponent", "half", "code"]
  f_fast_shortest : Dfn K mg "fast_shortest" s_fast_shortest ["form", "way", "row", "code"]
  f_L_right : Dfn K mg "_law_right" s_L_right ["_law_form_here", "_law_row_here"]
  f_L_great_right : Dfn K mg "_law_great_right" s_L_great_right ["_law_deck_here"]
  f_law : Dfn K mg "law" s_law ["_law_script"]
section
variable {P : Program} {w : World} {K : PySem.W.Frag} {mg : Str → Option Value} {base : Heap}
theorem d_is_whole (T : Tx K mg)  {f : Addr} {cdv : Value} {A : Around} {out : List Env} {s : Shared} {H : Hp} {E : XK} (hg : (bX P w K mg base N_is_whole "is_whole" s_is_whole f cdv A out s H E).A.guards = some []) (hr : Room 0 (bX P w K mg base N_is_whole "is_whole" s_is_whole f cdv A out s H E).A) :
    DSs (bX P w K mg base N_is_whole "is_whole" s_is_whole f cdv A out s H E) (defBody s_is_whole) t_is_whole :=
  dss_one (ds_ret (de_and (de_callB cd_isi (by rfl) T.m_isinstance (by decide +kernel) (da_cons (de_pv (pv 0)) (da_cons (de_tyName (by rfl) T.m_int (by decide +kernel)) (da_nil)))) (de_one (de_not (de_callB cd_isi (by rfl) T.m_isinstance (by decide +kernel) (da_cons (de_pv (pv 0)) (da_cons (de_tyName (by rfl) T.m_bool (by decide +kernel)) (da_nil))))))))
theorem h_is_whole (T : Tx K mg)  : Has P w K mg base 1 "is_whole" ["value"] F_is_whole :=
  okH T.f_is_whole sc_is_whole cnt_is_whole (fun f cdv A out s H E hg hr => d_is_whole T  hg hr) ok_is_whole
theorem d_raised (T : Tx K mg)  {f : Addr} {cdv : Value} {A : Around} {out : List Env} {s : Shared} {H : Hp} {E : XK} (hg : (bX P w K mg base N_raised "raised" s_raised f cdv A out s H E).A.guards = some []) (hr : Room 0 (bX P w K mg base N_raised "raised" s_raised f cdv A out s H E).A) :
    DSs (bX P w K mg base N_raised "raised" s_raised f cdv A out s H E) (defBody s_raised) t_raised :=
  dss_cons (ds_set (i := 2) sc_raised.nd rfl (Or.inl rfl) (de_int)) (dss_cons (ds_for (di_revRg (de_bits (de_pv (pv 1))) (fun _ p => pi_revR (by rfl) T.m_reversed (prg_1 (by rfl) T.m_range p))) (dg_name (pg_name (i := 3) sc_raised.nd rfl (Or.inl rfl))) (dss_cons (ds_set (i := 2) sc_raised.nd rfl (Or.inl rfl) (de_op od_mul (de_pv (pv 2)) (de_pv (pv 2)))) (dss_one (ds_if (dt_cmp (od_eq hr.units) (de_op od_and (de_op od_shr (de_pv (pv 1)) (de_pv (pv 3))) (de_int)) (de_int) (nomark _)) (dss_one (ds_set (i := 2) sc_raised.nd rfl (Or.inl rfl) (de_op od_mul (de_pv (pv 2)) (de_pv (pv 0))))) (dss_nil))))) (dss_one (ds_ret (de_pv (pv 2)))))
theorem h_raised (T : Tx K mg)  : Has P w K mg base 1 "raised" ["base", "exponent"] F_raised :=
  okH T.f_raised sc_raised cnt_raised (fun f cdv A out s H E hg hr => d_raised T  hg hr) ok_raised
theorem d_shifted (T : Tx K mg)  {f : Addr} {cdv : Value} {A : Around} {out : List Env} {s : Shared} {H : Hp} {E : XK} (hg : (bX P w K mg base N_shifted "shifted" s_shifted f cdv A out s H E).A.guards = some []) (hr : Room 0 (bX P w K mg base N_shifted "shifted" s_shifted f cdv A out s H E).A) :
    DSs (bX P w K mg base N_shifted "shifted" s_shifted f cdv A out s H E) (defBody s_shifted) t_shifted :=
  dss_cons (ds_if (dt_cmp od_lt (de_pv (pv 1)) (de_int) (nomark _)) (dss_one (ds_ret (de_tup (da_cons (de_pv (pv 0)) (da_cons (de_op od_shl (de_int) (de_un ud_neg (de_pv (pv 1)))) (da_nil)))))) (dss_nil)) (dss_one (ds_ret (de_tup (da_cons (de_op od_shl (de_pv (pv 0)) (de_pv (pv 1))) (da_cons (de_int) (da_nil))))))
theorem h_shifted (T : Tx K mg)  : Has P w K mg base 1 "shifted" ["n", "shift"] F_shifted :=
  okH T.f_shifted sc_shifted cnt_shifted (fun f cdv A out s H E hg hr => d_shifted T  hg hr) ok_shifted
theorem d_tens_below (T : Tx K mg)  {f : Addr} {cdv : Value} {A : Around} {out : List Env} {s : Shared} {H : Hp} {E : XK} (hg : (bX P w K mg base N_tens_below "tens_below" s_tens_below f cdv A out s H E).A.guards = some []) (hr : Room 0 (bX P w K mg base N_tens_below "tens_below" s_tens_below f cdv A out s H E).A) :
    DSs (bX P w K mg base N_tens_below "tens_below" s_tens_below f cdv A out s H E) (defBody s_tens_below) t_tens_below :=
  dss_one (ds_ret (de_op od_shr (de_op od_mul (de_pv (pv 0)) (de_int)) (de_int)))
theorem h_tens_below (T : Tx K mg)  : Has P w K mg base 1 "tens_below" ["k"] F_tens_below :=
  okH T.f_tens_below sc_tens_below cnt_tens_below (fun f cdv A out s H E hg hr => d_tens_below T  hg hr) ok_tens_below
theorem d_log_of (T : Tx K mg)  {f : Addr} {cdv : Value} {A : Around} {out : List Env} {s : Shared} {H : Hp} {E : XK} (hg : (bX P w K mg base N_log_of "log_of" s_log_of f cdv A out s H E).A.guards = some []) (hr : Room 0 (bX P w K mg base N_log_of "log_of" s_log_of f cdv A out s H E).A) :
    DSs (bX P w K mg base N_log_of "log_of" s_log_of f cdv A out s H E) (defBody s_log_of) t_log_of :=
  dss_cons (ds_set (i := 2) sc_log_of.nd rfl (Or.inl rfl) (de_op od_sub (de_bits (de_pv (pv 0))) (de_bits (de_pv (pv 1))))) (dss_cons (ds_if (dt_cmp od_ge (de_pv (pv 2)) (de_int) (nomark _)) (dss_one (ds_set (i := 3) sc_log_of.nd rfl (Or.inl rfl) (de_cmp od_le (de_op od_shl (de_pv (pv 1)) (de_pv (pv 2))) (de_pv (pv 0)) (nomark _)))) (dss_one (ds_set (i := 3) sc_log_of.nd rfl (Or.inl rfl) (de_cmp od_le (de_pv (pv 1)) (de_op od_shl (de_pv (pv 0)) (de_un ud_neg (de_pv (pv 2)))) (nomark _))))) (dss_one (ds_ret (de_ifExp (dt_val (de_pv (pv 3))) (de_pv (pv 2)) (de_op od_sub (de_pv (pv 2)) (de_int))))))
theorem h_log_of (T : Tx K mg)  : Has P w K mg base 1 "log_of" ["num", "den"] F_log_of :=
  okH T.f_log_of sc_log_of cnt_log_of (fun f cdv A out s H E hg hr => d_log_of T  hg hr) ok_log_of
theorem d_plain_decimal (T : Tx K mg)  {f : Addr} {cdv : Value} {A : Around} {out : List Env} {s : Shared} {H : Hp} {E : XK} (hg : (bX P w K mg base N_plain_decimal "plain_decimal" s_plain_decimal f cdv A out s H E).A.guards = some []) (hr : Room 0 (bX P w K mg base N_plain_decimal "plain_decimal" s_plain_decimal f cdv A out s H E).A) :
    DSs (bX P w K mg base N_plain_decimal "plain_decimal" s_plain_decimal f cdv A out s H E) (defBody s_plain_decimal) t_plain_decimal :=
  dss_cons (ds_asg (de_pv (pv 0)) (dg_seq rfl (dgs_cons (dg_name (pg_name (i := 1) sc_plain_decimal.nd rfl (Or.inl rfl))) (dgs_cons (dg_name (pg_name (i := 2) sc_plain_decimal.nd rfl (Or.inl rfl))) (dgs_nil))))) (dss_cons (ds_if (dt_cmp (od_eq hr.units) (de_pv (pv 1)) (de_int) (nomark _)) (dss_one (ds_ret (de_tup (da_cons (de_int) (da_cons (de_int) (da_nil)))))) (dss_nil)) (dss_cons (ds_while (dt_cmp (od_eq hr.units) (de_op od_mod (de_pv (pv 1)) (de_int)) (de_int) (nomark _)) (dss_cons (ds_set (i := 1) sc_plain_decimal.nd rfl (Or.inl rfl) (de_op od_fdiv (de_pv (pv 1)) (de_int))) (dss_one (ds_set (i := 2) sc_plain_decimal.nd rfl (Or.inl rfl) (de_op od_add (de_pv (pv 2)) (de_int)))))) (dss_one (ds_ret (de_tup (da_cons (de_pv (pv 1)) (da_cons (de_pv (pv 2)) (da_nil))))))))
theorem h_plain_decimal (T : Tx K mg)  : Has P w K mg base 1 "plain_decimal" ["decimal"] F_plain_decimal :=
  okH T.f_plain_decimal sc_plain_decimal cnt_plain_decimal (fun f cdv A out s H E hg hr => d_plain_decimal T  hg hr) ok_plain_decimal
theorem d_count_of (T : Tx K mg)  {f : Addr} {cdv : Value} {A : Around} {out : List Env} {s : Shared} {H : Hp} {E : XK} (hg : (bX P w K mg base N_count_of "count_of" s_count_of f cdv A out s H E).A.guards = some []) (hr : Room 0 (bX P w K mg base N_count_of "count_of" s_count_of f cdv A out s H E).A) :
    DSs (bX P w K mg base N_count_of "count_of" s_count_of f cdv A out s H E) (defBody s_count_of) t_count_of :=
  dss_cons (ds_asg (de_pv (pv 0)) (dg_seq rfl (dgs_cons (dg_name (pg_name (i := 1) sc_count_of.nd rfl (Or.inl rfl))) (dgs_cons (dg_name (pg_name (i := 2) sc_count_of.nd rfl (Or.inl rfl))) (dgs_cons (dg_name (pg_name (i := 3) sc_count_of.nd rfl (Or.inl rfl))) (dgs_nil)))))) (dss_one (ds_ret (de_op od_shl (de_op od_add (de_op od_sub (de_pv (pv 3)) (de_pv (pv 2))) (de_int)) (de_op od_sub (de_pv (pv 1)) (de_int)))))
theorem h_count_of (T : Tx K mg)  : Has P w K mg base 1 "count_of" ["form"] F_count_of :=
  okH T.f_count_of sc_count_of cnt_count_of (fun f cdv A out s H E hg hr => d_count_of T  hg hr) ok_count_of
theorem d_parts_at (T : Tx K mg)  {f : Addr} {cdv : Value} {A : Around} {out : List Env} {s : Shared} {H : Hp} {E : XK} (hg : (bX P w K mg base N_parts_at "parts_at" s_parts_at f cdv A out s H E).A.guards = some []) (hr : Room 0 (bX P w K mg base N_parts_at "parts_at" s_parts_at f cdv A out s H E).A) :
    DSs (bX P w K mg base N_parts_at "parts_at" s_parts_at f cdv A out s H E) (defBody s_parts_at) t_parts_at :=
  dss_cons (ds_asg (de_pv (pv 0)) (dg_seq rfl (dgs_cons (dg_name (pg_name (i := 2) sc_parts_at.nd rfl (Or.inl rfl))) (dgs_cons (dg_name (pg_name (i := 3) sc_parts_at.nd rfl (Or.inl rfl))) (dgs_cons (dg_name (pg_name (i := 4) sc_parts_at.nd rfl (Or.inl rfl))) (dgs_nil)))))) (dss_cons (ds_set (i := 5) sc_parts_at.nd rfl (Or.inl rfl) (de_callB (cd_max2 rfl) (by rfl) T.m_max (by decide +kernel) (da_cons (de_op od_sub (de_op od_shr (de_pv (pv 1)) (de_op od_sub (de_pv (pv 2)) (de_int))) (de_int)) (da_cons (de_int) (da_nil))))) (dss_one (ds_ret (de_tup (da_cons (de_op od_sub (de_pv (pv 1)) (de_op od_shl (de_pv (pv 5)) (de_op od_sub (de_pv (pv 2)) (de_int)))) (da_cons (de_op od_add (de_pv (pv 3)) (de_pv (pv 5))) (da_nil)))))))
theorem h_parts_at (T : Tx K mg)  : Has P w K mg base 1 "parts_at" ["form", "code"] F_parts_at :=
  okH T.f_parts_at sc_parts_at cnt_parts_at (fun f cdv A out s H E hg hr => d_parts_at T  hg hr) ok_parts_at
theorem d_rounded_by (T : Tx K mg)  {f : Addr} {cdv : Value} {A : Around} {out : List Env} {s : Shared} {H : Hp} {E : XK} (hg : (bX P w K mg base N_rounded_by "rounded_by" s_rounded_by f cdv A out s H E).A.guards = some []) (hr : Room 0 (bX P w K mg base N_rounded_by "rounded_by" s_rounded_by f cdv A out s H E).A) :
    DSs (bX P w K mg base N_rounded_by "rounded_by" s_rounded_by f cdv A out s H E) (defBody s_rounded_by) t_rounded_by :=
  dss_cons (ds_set (i := 3) sc_rounded_by.nd rfl (Or.inl rfl) (de_op od_fdiv (de_pv (pv 1)) (de_pv (pv 2)))) (dss_cons (ds_set (i := 4) sc_rounded_by.nd rfl (Or.inl rfl) (de_op od_mod (de_pv (pv 1)) (de_pv (pv 2)))) (dss_cons (ds_if (DW.dt (dw_or (dt_cmp (od_eq hr.units) (de_pv (pv 4)) (de_int) (nomark _)) (dw_or1 (dt_cmp (od_eq hr.units) (de_pv (pv 0)) (de_str) (nomark _))))) (dss_one (ds_ret (de_pv (pv 3)))) (dss_nil)) (dss_cons (ds_if (dt_cmp (od_eq hr.units) (de_pv (pv 0)) (de_str) (nomark _)) (dss_one (ds_ret (de_op od_add (de_pv (pv 3)) (de_int)))) (dss_nil)) (dss_cons (ds_if (dt_cmp (od_eq hr.units) (de_pv (pv 0)) (de_str) (nomark _)) (dss_one (ds_ret (de_op od_or (de_pv (pv 3)) (de_int)))) (dss_nil)) (dss_cons (ds_if (dt_cmp (od_eq hr.units) (de_op od_mul (de_int) (de_pv (pv 4))) (de_pv (pv 2)) (nomark _)) (dss_one (ds_ret (de_ifExp (dt_cmp (od_eq hr.units) (de_pv (pv 0)) (de_str) (nomark _)) (de_op od_add (de_pv (pv 3)) (de_int)) (de_op od_add (de_pv (pv 3)) (de_op od_mod (de_pv (pv 3)) (de_int)))))) (dss_nil)) (dss_one (ds_ret (de_ifExp (dt_cmp od_gt (de_op od_mul (de_int) (de_pv (pv 4))) (de_pv (pv 2)) (nomark _)) (de_op od_add (de_pv (pv 3)) (de_int)) (de_pv (pv 3))))))))))
theorem h_rounded_by (T : Tx K mg)  : Has P w K mg base 1 "rounded_by" ["way", "n", "d"] F_rounded_by :=
  okH T.f_rounded_by sc_rounded_by cnt_rounded_by (fun f cdv A out s H E hg hr => d_rounded_by T  hg hr) ok_rounded_by
theorem d_fast_span (T : Tx K mg)  {f : Addr} {cdv : Value} {A : Around} {out : List Env} {s : Shared} {H : Hp} {E : XK} (hg : (bX P w K mg base N_fast_span "fast_span" s_fast_span f cdv A out s H E).A.guards = some []) (hr : Room 0 (bX P w K mg base N_fast_span "fast_span" s_fast_span f cdv A out s H E).A) :
    DSs (bX P w K mg base N_fast_span "fast_span" s_fast_span f cdv A out s H E) (defBody s_fast_span) t_fast_span :=
  dss_cons (ds_asg (de_pv (pv 0)) (dg_seq rfl (dgs_cons (dg_name (pg_name (i := 2) sc_fast_span.nd rfl (Or.inl rfl))) (dgs_cons (dg_name (pg_name (i := 3) sc_fast_span.nd rfl (Or.inl rfl))) (dgs_cons (dg_name (pg_name (i := 4) sc_fast_span.nd rfl (Or.inl rfl))) (dgs_nil)))))) (dss_cons (ds_if (DW.dt (dw_or (dt_cmp od_lt (de_pv (pv 1)) (de_pv (pv 3)) (nomark _)) (dw_or1 (dt_cmp od_gt (de_pv (pv 1)) (de_pv (pv 4)) (nomark _))))) (dss_one (ds_ret (de_tup (da_cons (de_int) (da_cons (de_int) (da_nil)))))) (dss_nil)) (dss_cons (ds_set (i := 5) sc_fast_span.nd rfl (Or.inl rfl) (de_c (pe_glob (v := .int 11) rfl T.c_LEAST_FAST.choose_spec ⟨_, rfl⟩) (fun _ _ _ _ => rfl))) (dss_cons (ds_if (dt_cmp od_gt (de_pv (pv 1)) (de_pv (pv 3)) (nomark _)) (dss_one (ds_set (i := 5) sc_fast_span.nd rfl (Or.inl rfl) (de_callB (cd_max2 rfl) (by rfl) T.m_max (by decide +kernel) (da_cons (de_pv (pv 5)) (da_cons (de_op od_add (de_op od_shl (de_int) (de_op od_sub (de_pv (pv 2)) (de_int))) (de_int)) (da_nil)))))) (dss_nil)) (dss_one (ds_ret (de_tup (da_cons (de_pv (pv 5)) (da_cons (de_callB (cd_max2 rfl) (by rfl) T.m_max (by decide +kernel) (da_cons (de_pv (pv 5)) (da_cons (de_op od_shl (de_int) (de_pv (pv 2))) (da_nil)))) (da_nil)))))))))
theorem h_fast_span (T : Tx K mg)  : Has P w K mg base 1 "fast_span" ["form", "exponent"] F_fast_span :=
  okH T.f_fast_span sc_fast_span cnt_fast_span (fun f cdv A out s H E hg hr => d_fast_span T  hg hr) ok_fast_span
theorem d_L_deck (T : Tx K mg)  {f : Addr} {cdv : Value} {A : Around} {out : List Env} {s : Shared} {H : Hp} {E : XK} (hg : (bX P w K mg base N_L_deck "_law_deck" s_L_deck f cdv A out s H E).A.guards = some []) (hr : Room 0 (bX P w K mg base N_L_deck "_law_deck" s_L_deck f cdv A out s H E).A) :
    DSs (bX P w K mg base N_L_deck "_law_deck" s_L_deck f cdv A out s H E) (defBody s_L_deck) t_L_deck :=
  dss_one (ds_ret (de_lst (da_cons (de_lc (own := [("_law_cell", 1)]) (di_list (de_slice (de_pv (pv 0)) (do_none) (do_some (de_int)))) (cg_name (by decide)) lcYes (fun _ _ _ _ _ => de_callB cd_abs (by rfl) T.m_abs (by decide +kernel) (da_cons (de_pv (pv 1)) (da_nil))) (fun _ _ _ a b c => pe_lc (own := [("_law_cell", 1)]) rfl sc_L_deck.nd a (blkOk_by (N := N_L_deck) (sc := defScope s_L_deck) (by decide +kernel)) (fun _ _ _ _ _ => pg_name (i := 1) sc_L_deck.nd rfl (Or.inl rfl)) b c)) (da_cons (de_int) (da_nil)))))
theorem h_L_deck (T : Tx K mg)  : Has P w K mg base 1 "_law_deck" ["_law_script"] F_L_deck :=
  okH T.f_L_deck sc_L_deck cnt_L_deck (fun f cdv A out s H E hg hr => d_L_deck T  hg hr) ok_L_deck
theorem d_L_draw (T : Tx K mg)  {f : Addr} {cdv : Value} {A : Around} {out : List Env} {s : Shared} {H : Hp} {E : XK} (hg : (bX P w K mg base N_L_draw "_law_draw" s_L_draw f cdv A out s H E).A.guards = some []) (hr : Room 0 (bX P w K mg base N_L_draw "_law_draw" s_L_draw f cdv A out s H E).A) :
    DSs (bX P w K mg base N_L_draw "_law_draw" s_L_draw f cdv A out s H E) (defBody s_L_draw) t_L_draw :=
  dss_cons (ds_asg (de_op od_add (de_ix id_ix (de_pv (pv 0)) (de_int)) (de_int)) (dg_box (de_pv (pv 0)) (de_int))) (dss_cons (ds_asg (de_tup (da_cons (de_int) (da_cons (de_un ud_neg (de_int)) (da_nil)))) (dg_seq rfl (dgs_cons (dg_name (pg_name (i := 2) sc_L_draw.nd rfl (Or.inl rfl))) (dgs_cons (dg_name (pg_name (i := 3) sc_L_draw.nd rfl (Or.inl rfl))) (dgs_nil))))) (dss_cons (ds_if (dt_cmp od_gt (de_callB cd_len (by rfl) T.m_len (by decide +kernel) (da_cons (de_ix id_ix (de_pv (pv 0)) (de_int)) (da_nil))) (de_int) (nomark _)) (dss_cons (ds_set (i := 3) sc_L_draw.nd rfl (Or.inl rfl) (de_op od_mod (de_callTy cd_int (by rfl) T.m_int (by decide +kernel) (da_cons (de_ix id_ix (de_pv (pv 0)) (de_int)) (da_nil))) (de_callB cd_len (by rfl) T.m_len (by decide +kernel) (da_cons (de_ix id_ix (de_pv (pv 0)) (de_int)) (da_nil))))) (dss_one (ds_set (i := 2) sc_L_draw.nd rfl (Or.inl rfl) (de_ix id_ix (de_ix id_ix (de_pv (pv 0)) (de_int)) (de_pv (pv 3)))))) (dss_nil)) (dss_cons (ds_if (dt_cmp od_ge (de_pv (pv 2)) (de_op od_pow (de_int) (de_int)) (nomark _)) (dss_cons (ds_asg (de_op od_fdiv (de_callTy cd_int (by rfl) T.m_int (by decide +kernel) (da_cons (de_pv (pv 2)) (da_nil))) (de_pv (pv 1))) (dg_box (de_ix id_ix (de_pv (pv 0)) (de_int)) (de_pv (pv 3)))) (dss_one (ds_ret (de_op od_mod (de_callTy cd_int (by rfl) T.m_int (by decide +kernel) (da_cons (de_pv (pv 2)) (da_nil))) (de_pv (pv 1)))))) (dss_nil)) (dss_cons (ds_set (i := 4) sc_L_draw.nd rfl (Or.inl rfl) (de_op od_add (de_op od_add (de_op od_mod (de_callTy cd_int (by rfl) T.m_int (by decide +kernel) (da_cons (de_pv (pv 2)) (da_nil))) (de_int)) (de_op od_mul (de_int) (de_ix id_ix (de_pv (pv 0)) (de_int)))) (de_int))) (dss_one (ds_ret (de_op od_mod (de_callTy cd_int (by rfl) T.m_int (by decide +kernel) (da_cons (de_op od_mod (de_callTy cd_int (by rfl) T.m_int (by decide +kernel) (da_cons (de_op od_pow (de_pv (pv 4)) (de_int)) (da_nil))) (de_int)) (da_nil))) (de_pv (pv 1)))))))))
theorem h_L_draw (T : Tx K mg)  : Has P w K mg base 1 "_law_draw" ["_law_deck_here", "_law_many"] F_L_draw :=
  okH T.f_L_draw sc_L_draw cnt_L_draw (fun f cdv A out s H E hg hr => d_L_draw T  hg hr) ok_L_draw
theorem d_L_ten (T : Tx K mg)  {f : Addr} {cdv : Value} {A : Around} {out : List Env} {s : Shared} {H : Hp} {E : XK} (hg : (bX P w K mg base N_L_ten "_law_ten" s_L_ten f cdv A out s H E).A.guards = some []) (hr : Room 0 (bX P w K mg base N_L_ten "_law_ten" s_L_ten f cdv A out s H E).A) :
    DSs (bX P w K mg base N_L_ten "_law_ten" s_L_ten f cdv A out s H E) (defBody s_L_ten) t_L_ten :=
  dss_cons (ds_set (i := 1) sc_L_ten.nd rfl (Or.inl rfl) (de_int)) (dss_cons (ds_for (di_range1 (by rfl) T.m_range (da_cons (de_pv (pv 0)) (da_nil)) (fun _ p => pi_range1 (by rfl) T.m_range p)) (dg_name (pg_name (i := 2) sc_L_ten.nd rfl (Or.inl rfl))) (dss_one (ds_set (i := 1) sc_L_ten.nd rfl (Or.inl rfl) (de_op od_mul (de_pv (pv 1)) (de_int))))) (dss_one (ds_ret (de_pv (pv 1)))))
theorem h_L_ten (T : Tx K mg)  : Has P w K mg base 1 "_law_ten" ["_law_power"] F_L_ten :=
  okH T.f_L_ten sc_L_ten cnt_L_ten (fun f cdv A out s H E hg hr => d_L_ten T  hg hr) ok_L_ten
theorem d_L_binary (T : Tx K mg)  {f : Addr} {cdv : Value} {A : Around} {out : List Env} {s : Shared} {H : Hp} {E : XK} (hg : (bX P w K mg base N_L_binary "_law_binary" s_L_binary f cdv A out s H E).A.guards = some []) (hr : Room 0 (bX P w K mg base N_L_binary "_law_binary" s_L_binary f cdv A out s H E).A) :
    DSs (bX P w K mg base N_L_binary "_law_binary" s_L_binary f cdv A out s H E) (defBody s_L_binary) t_L_binary :=
  dss_one (ds_ret (de_ifExp (dt_cmp od_ge (de_pv (pv 1)) (de_int) (nomark _)) (de_tup (da_cons (de_op od_shl (de_pv (pv 0)) (de_pv (pv 1))) (da_cons (de_int) (da_nil)))) (de_tup (da_cons (de_pv (pv 0)) (da_cons (de_op od_shl (de_int) (de_op od_sub (de_int) (de_pv (pv 1)))) (da_nil))))))
theorem h_L_binary (T : Tx K mg)  : Has P w K mg base 1 "_law_binary" ["_law_m", "_law_e"] F_L_binary :=
  okH T.f_L_binary sc_L_binary cnt_L_binary (fun f cdv A out s H E hg hr => d_L_binary T  hg hr) ok_L_binary
theorem d_L_cut (T : Tx K mg)  {f : Addr} {cdv : Value} {A : Around} {out : List Env} {s : Shared} {H : Hp} {E : XK} (hg : (bX P w K mg base N_L_cut "_law_cut" s_L_cut f cdv A out s H E).A.guards = some []) (hr : Room 0 (bX P w K mg base N_L_cut "_law_cut" s_L_cut f cdv A out s H E).A) :
    DSs (bX P w K mg base N_L_cut "_law_cut" s_L_cut f cdv A out s H E) (defBody s_L_cut) t_L_cut :=
  dss_cons (ds_set (i := 3) sc_L_cut.nd rfl (Or.inl rfl) (de_op od_sub (de_op od_sub (de_bits (de_pv (pv 0))) (de_bits (de_pv (pv 1)))) (de_pv (pv 2)))) (dss_cons (ds_for (di_tup (de_tup (da_cons (de_pv (pv 3)) (da_cons (de_op od_add (de_pv (pv 3)) (de_int)) (da_nil))))) (dg_name (pg_name (i := 4) sc_L_cut.nd rfl (Or.inl rfl))) (dss_cons (ds_asg (de_ifExp (dt_cmp od_ge (de_pv (pv 4)) (de_int) (nomark _)) (de_tup (da_cons (de_pv (pv 0)) (da_cons (de_op od_shl (de_pv (pv 1)) (de_pv (pv 4))) (da_nil)))) (de_tup (da_cons (de_op od_shl (de_pv (pv 0)) (de_op od_sub (de_int) (de_pv (pv 4)))) (da_cons (de_pv (pv 1)) (da_nil))))) (dg_seq rfl (dgs_cons (dg_name (pg_name (i := 5) sc_L_cut.nd rfl (Or.inl rfl))) (dgs_cons (dg_name (pg_name (i := 6) sc_L_cut.nd rfl (Or.inl rfl))) (dgs_nil))))) (dss_one (ds_if (dt_cmp (od_eq hr.units) (de_bits (de_op od_fdiv (de_pv (pv 5)) (de_pv (pv 6)))) (de_pv (pv 2)) (nomark _)) (dss_one (ds_ret (de_tup (da_cons (de_op od_fdiv (de_pv (pv 5)) (de_pv (pv 6))) (da_cons (de_pv (pv 4)) (da_cons (de_callTy cd_int (by rfl) T.m_int (by decide +kernel) (da_cons (de_cmp (od_ne hr.units) (de_op od_mod (de_callTy cd_int (by rfl) T.m_int (by decide +kernel) (da_cons (de_pv (pv 5)) (da_nil))) (de_pv (pv 6))) (de_int) (nomark _)) (da_nil))) (da_nil))))))) (dss_nil))))) (dss_one (ds_ret (de_non))))
theorem h_L_cut (T : Tx K mg)  : Has P w K mg base 1 "_law_cut" ["_law_num", "_law_den", "_law_bits"] F_L_cut :=
  okH T.f_L_cut sc_L_cut cnt_L_cut (fun f cdv A out s H E hg hr => d_L_cut T  hg hr) ok_L_cut
theorem d_L_fast (T : Tx K mg)  {f : Addr} {cdv : Value} {A : Around} {out : List Env} {s : Shared} {H : Hp} {E : XK} (hg : (bX P w K mg base N_L_fast "_law_fast" s_L_fast f cdv A out s H E).A.guards = some []) (hr : Room 0 (bX P w K mg base N_L_fast "_law_fast" s_L_fast f cdv A out s H E).A) :
    DSs (bX P w K mg base N_L_fast "_law_fast" s_L_fast f cdv A out s H E) (defBody s_L_fast) t_L_fast :=
  dss_cons (ds_asg (de_pv (pv 0)) (dg_seq rfl (dgs_cons (dg_name (pg_name (i := 2) sc_L_fast.nd rfl (Or.inr rfl))) (dgs_cons (dg_name (pg_name (i := 3) sc_L_fast.nd rfl (Or.inr rfl))) (dgs_cons (dg_name (pg_name (i := 4) sc_L_fast.nd rfl (Or.inl rfl))) (dgs_nil)))))) (dss_cons (ds_if (dt_not (dt_chain od_le od_le (de_pv (pv 3)) (de_pv (pv 1)) (de_pv (pv 4)))) (dss_one (ds_ret (de_lst (da_nil)))) (dss_nil)) (dss_one (ds_ret (de_lc (own := [("_law_m", 5)]) (di_rangeW (da_cons (de_int) (da_cons (de_op od_shl (de_int) (de_pv (pv 2))) (da_nil))) (fun _ p => pi_rangeW (by rfl) T.m_range p)) (cg_name (by decide)) (lcIf (fun _ _ _ _ _ => DW.dt (dw_or (dt_cmp (od_eq hr.units) (de_pv (pv 1)) (de_pv (pv 3)) (nomark _)) (dw_or1 (dt_cmp od_gt (de_pv (pv 5)) (de_op od_shl (de_int) (de_op od_sub (de_pv (pv 2)) (de_int))) (nomark _)))))) (fun _ _ _ _ _ => de_pv (pv 5)) (fun _ _ _ a b c => pe_lc (own := [("_law_m", 5)]) rfl sc_L_fast.nd a (blkOk_by (N := N_L_fast) (sc := defScope s_L_fast) (by decide +kernel)) (fun _ _ _ _ _ => pg_name (i := 5) sc_L_fast.nd rfl (Or.inl rfl)) b c)))))
theorem h_L_fast (T : Tx K mg)  : Has P w K mg base 1 "_law_fast" ["_law_form_here", "_law_exponent"] F_L_fast :=
  okH T.f_L_fast sc_L_fast cnt_L_fast (fun f cdv A out s H E hg hr => d_L_fast T  hg hr) ok_L_fast
theorem d_L_quotients (T : Tx K mg)  {f : Addr} {cdv : Value} {A : Around} {out : List Env} {s : Shared} {H : Hp} {E : XK} (hg : (bX P w K mg base N_L_quotients "_law_quotients" s_L_quotients f cdv A out s H E).A.guards = some []) (hr : Room 0 (bX P w K mg base N_L_quotients "_law_quotients" s_L_quotients f cdv A out s H E).A) :
    DSs (bX P w K mg base N_L_quotients "_law_quotients" s_L_quotients f cdv A out s H E) (defBody s_L_quotients) t_L_quotients :=
  dss_cons (ds_asg (de_pv (pv 1)) (dg_seq rfl (dgs_cons (dg_name (pg_name (i := 2) sc_L_quotients.nd rfl (Or.inl rfl))) (dgs_cons (dg_name (pg_name (i := 3) sc_L_quotients.nd rfl (Or.inl rfl))) (dgs_nil))))) (dss_one (ds_ret (de_lst (da_cons (de_op od_fdiv (de_op od_mul (de_op od_sub (de_op od_mul (de_int) (de_pv (pv 0))) (de_int)) (de_pv (pv 2))) (de_pv (pv 3))) (da_cons (de_op od_fdiv (de_op od_mul (de_op od_mul (de_int) (de_pv (pv 0))) (de_pv (pv 2))) (de_pv (pv 3))) (da_cons (de_op od_fdiv (de_op od_mul (de_op od_add (de_op od_mul (de_int) (de_pv (pv 0))) (de_int)) (de_pv (pv 2))) (de_pv (pv 3))) (da_nil)))))))
theorem h_L_quotients (T : Tx K mg)  : Has P w K mg base 1 "_law_quotients" ["_law_m", "_law_value"] F_L_quotients :=
  okH T.f_L_quotients sc_L_quotients cnt_L_quotients (fun f cdv A out s H E hg hr => d_L_quotients T  hg hr) ok_L_quotients
theorem d_L_plain (T : Tx K mg)  {f : Addr} {cdv : Value} {A : Around} {out : List Env} {s : Shared} {H : Hp} {E : XK} (hg : (bX P w K mg base N_L_plain "_law_plain" s_L_plain f cdv A out s H E).A.guards = some []) (hr : Room 0 (bX P w K mg base N_L_plain "_law_plain" s_L_plain f cdv A out s H E).A) :
    DSs (bX P w K mg base N_L_plain "_law_plain" s_L_plain f cdv A out s H E) (defBody s_L_plain) t_L_plain :=
  dss_cons (ds_if (dt_cmp (od_eq hr.units) (de_pv (pv 0)) (de_int) (nomark _)) (dss_one (ds_ret (de_tup (da_cons (de_int) (da_cons (de_int) (da_nil)))))) (dss_nil)) (dss_cons (ds_while (dt_cmp (od_eq hr.units) (de_op od_mod (de_callTy cd_int (by rfl) T.m_int (by decide +kernel) (da_cons (de_pv (pv 0)) (da_nil))) (de_int)) (de_int) (nomark _)) (dss_one (ds_par (i := 0) (j := 1) (da_cons (de_op od_fdiv (de_pv (pv 0)) (de_int)) (da_cons (de_op od_add (de_pv (pv 1)) (de_int)) (da_nil))) (fun _ p => ps_par (by rfl) sc_L_plain.nd rfl rfl (by decide) rfl rfl p (by rfl))))) (dss_one (ds_ret (de_tup (da_cons (de_pv (pv 0)) (da_cons (de_pv (pv 1)) (da_nil)))))))
theorem h_L_plain (T : Tx K mg)  : Has P w K mg base 1 "_law_plain" ["_law_d", "_law_q"] F_L_plain :=
  okH T.f_L_plain sc_L_plain cnt_L_plain (fun f cdv A out s H E hg hr => d_L_plain T  hg hr) ok_L_plain
theorem d_is_between (T : Tx K mg) (H_is_whole : Has P w K mg base 1 "is_whole" ["value"] F_is_whole) {f : Addr} {cdv : Value} {A : Around} {out : List Env} {s : Shared} {H : Hp} {E : XK} (hg : (bX P w K mg base N_is_between "is_between" s_is_between f cdv A out s H E).A.guards = some []) (hr : Room 1 (bX P w K mg base N_is_between "is_between" s_is_between f cdv A out s H E).A) :
    DSs (bX P w K mg base N_is_between "is_between" s_is_between f cdv A out s H E) (defBody s_is_between) t_is_between :=
  dss_one (ds_ret (de_and (de_callH H_is_whole hg (hr.mono (by decide)) (by rfl) (da_cons (de_pv (pv 0)) (da_nil))) (de_one (de_chain od_le od_le (de_pv (pv 1)) (de_pv (pv 0)) (de_pv (pv 2))))))
theorem h_is_between (T : Tx K mg) (H_is_whole : Has P w K mg base 1 "is_whole" ["value"] F_is_whole) : Has P w K mg base 2 "is_between" ["value", "least", "greatest"] F_is_between :=
  okH T.f_is_between sc_is_between cnt_is_between (fun f cdv A out s H E hg hr => d_is_between T H_is_whole hg hr) ok_is_between
theorem d_fraction_of (T : Tx K mg) (H_raised : Has P w K mg base 1 "raised" ["base", "exponent"] F_raised) {f : Addr} {cdv : Value} {A : Around} {out : List Env} {s : Shared} {H : Hp} {E : XK} (hg : (bX P w K mg base N_fraction_of "fraction_of" s_fraction_of f cdv A out s H E).A.guards = some []) (hr : Room 1 (bX P w K mg base N_fraction_of "fraction_of" s_fraction_of f cdv A out s H E).A) :
    DSs (bX P w K mg base N_fraction_of "fraction_of" s_fraction_of f cdv A out s H E) (defBody s_fraction_of) t_fraction_of :=
  dss_cons (ds_asg (de_pv (pv 0)) (dg_seq rfl (dgs_cons (dg_name (pg_name (i := 1) sc_fraction_of.nd rfl (Or.inl rfl))) (dgs_cons (dg_name (pg_name (i := 2) sc_fraction_of.nd rfl (Or.inl rfl))) (dgs_nil))))) (dss_cons (ds_if (dt_cmp od_lt (de_pv (pv 2)) (de_int) (nomark _)) (dss_one (ds_ret (de_tup (da_cons (de_pv (pv 1)) (da_cons (de_callH H_raised hg (hr.mono (by decide)) (by rfl) (da_cons (de_int) (da_cons (de_un ud_neg (de_pv (pv 2))) (da_nil)))) (da_nil)))))) (dss_nil)) (dss_one (ds_ret (de_tup (da_cons (de_op od_mul (de_pv (pv 1)) (de_callH H_raised hg (hr.mono (by decide)) (by rfl) (da_cons (de_int) (da_cons (de_pv (pv 2)) (da_nil))))) (da_cons (de_int) (da_nil)))))))
theorem h_fraction_of (T : Tx K mg) (H_raised : Has P w K mg base 1 "raised" ["base", "exponent"] F_raised) : Has P w K mg base 2 "fraction_of" ["decimal"] F_fraction_of :=
  okH T.f_fraction_of sc_fraction_of cnt_fraction_of (fun f cdv A out s H E hg hr => d_fraction_of T H_raised hg hr) ok_fraction_of
theorem d_exponent_at (T : Tx K mg) (H_log_of : Has P w K mg base 1 "log_of" ["num", "den"] F_log_of) {f : Addr} {cdv : Value} {A : Around} {out : List Env} {s : Shared} {H : Hp} {E : XK} (hg : (bX P w K mg base N_exponent_at "exponent_at" s_exponent_at f cdv A out s H E).A.guards = some []) (hr : Room 1 (bX P w K mg base N_exponent_at "exponent_at" s_exponent_at f cdv A out s H E).A) :
    DSs (bX P w K mg base N_exponent_at "exponent_at" s_exponent_at f cdv A out s H E) (defBody s_exponent_at) t_exponent_at :=
  dss_cons (ds_asg (de_pv (pv 0)) (dg_seq rfl (dgs_cons (dg_name (pg_name (i := 3) sc_exponent_at.nd rfl (Or.inl rfl))) (dgs_cons (dg_name (pg_name (i := 4) sc_exponent_at.nd rfl (Or.inl rfl))) (dgs_cons (dg_name (pg_name (i := 5) sc_exponent_at.nd rfl (Or.inl rfl))) (dgs_nil)))))) (dss_cons (ds_if (dt_cmp (od_eq hr.units) (de_pv (pv 1)) (de_int) (nomark _)) (dss_one (ds_ret (de_pv (pv 4)))) (dss_nil)) (dss_one (ds_ret (de_callB (cd_max2 rfl) (by rfl) T.m_max (by decide +kernel) (da_cons (de_pv (pv 4)) (da_cons (de_callB (cd_min2 rfl) (by rfl) T.m_min (by decide +kernel) (da_cons (de_pv (pv 5)) (da_cons (de_op od_add (de_op od_sub (de_callH H_log_of hg (hr.mono (by decide)) (by rfl) (da_cons (de_pv (pv 1)) (da_cons (de_pv (pv 2)) (da_nil)))) (de_pv (pv 3))) (de_int)) (da_nil)))) (da_nil)))))))
theorem h_exponent_at (T : Tx K mg) (H_log_of : Has P w K mg base 1 "log_of" ["num", "den"] F_log_of) : Has P w K mg base 2 "exponent_at" ["form", "num", "den"] F_exponent_at :=
  okH T.f_exponent_at sc_exponent_at cnt_exponent_at (fun f cdv A out s H E hg hr => d_exponent_at T H_log_of hg hr) ok_exponent_at
theorem d_greatest_read (T : Tx K mg) (H_count_of : Has P w K mg base 1 "count_of" ["form"] F_count_of) {f : Addr} {cdv : Value} {A : Around} {out : List Env} {s : Shared} {H : Hp} {E : XK} (hg : (bX P w K mg base N_greatest_read "greatest_read" s_greatest_read f cdv A out s H E).A.guards = some []) (hr : Room 1 (bX P w K mg base N_greatest_read "greatest_read" s_greatest_read f cdv A out s H E).A) :
    DSs (bX P w K mg base N_greatest_read "greatest_read" s_greatest_read f cdv A out s H E) (defBody s_greatest_read) t_greatest_read :=
  dss_cons (ds_set (i := 2) sc_greatest_read.nd rfl (Or.inl rfl) (de_callH H_count_of hg (hr.mono (by decide)) (by rfl) (da_cons (de_pv (pv 0)) (da_nil)))) (dss_cons (ds_if (dt_cmp (od_eq hr.units) (de_pv (pv 1)) (de_str) (nomark _)) (dss_one (ds_ret (de_op od_sub (de_pv (pv 2)) (de_int)))) (dss_nil)) (dss_cons (ds_if (dt_cmp (od_eq hr.units) (de_pv (pv 1)) (de_str) (nomark _)) (dss_one (ds_ret (de_op od_or (de_op od_sub (de_pv (pv 2)) (de_int)) (de_int)))) (dss_nil)) (dss_one (ds_ret (de_pv (pv 2))))))
theorem h_greatest_read (T : Tx K mg) (H_count_of : Has P w K mg base 1 "count_of" ["form"] F_count_of) : Has P w K mg base 2 "greatest_read" ["form", "way"] F_greatest_read :=
  okH T.f_greatest_read sc_greatest_read cnt_greatest_read (fun f cdv A out s H E hg hr => d_greatest_read T H_count_of hg hr) ok_greatest_read
theorem d_place_of (T : Tx K mg) (H_tens_below : Has P w K mg base 1 "tens_below" ["k"] F_tens_below) {f : Addr} {cdv : Value} {A : Around} {out : List Env} {s : Shared} {H : Hp} {E : XK} (hg : (bX P w K mg base N_place_of "place_of" s_place_of f cdv A out s H E).A.guards = some []) (hr : Room 1 (bX P w K mg base N_place_of "place_of" s_place_of f cdv A out s H E).A) :
    DSs (bX P w K mg base N_place_of "place_of" s_place_of f cdv A out s H E) (defBody s_place_of) t_place_of :=
  dss_one (ds_ret (de_callH H_tens_below hg (hr.mono (by decide)) (by rfl) (da_cons (de_pv (pv 0)) (da_nil))))
theorem h_place_of (T : Tx K mg) (H_tens_below : Has P w K mg base 1 "tens_below" ["k"] F_tens_below) : Has P w K mg base 2 "place_of" ["exponent"] F_place_of :=
  okH T.f_place_of sc_place_of cnt_place_of (fun f cdv A out s H E hg hr => d_place_of T H_tens_below hg hr) ok_place_of
theorem d_top_of (T : Tx K mg) (H_shifted : Has P w K mg base 1 "shifted" ["n", "shift"] F_shifted) {f : Addr} {cdv : Value} {A : Around} {out : List Env} {s : Shared} {H : Hp} {E : XK} (hg : (bX P w K mg base N_top_of "top_of" s_top_of f cdv A out s H E).A.guards = some []) (hr : Room 1 (bX P w K mg base N_top_of "top_of" s_top_of f cdv A out s H E).A) :
    DSs (bX P w K mg base N_top_of "top_of" s_top_of f cdv A out s H E) (defBody s_top_of) t_top_of :=
  dss_cons (ds_asg (de_pv (pv 0)) (dg_seq rfl (dgs_cons (dg_name (pg_name (i := 1) sc_top_of.nd rfl (Or.inl rfl))) (dgs_cons (dg_name (pg_name (i := 2) sc_top_of.nd rfl (Or.inl rfl))) (dgs_cons (dg_name (pg_name (i := 3) sc_top_of.nd rfl (Or.inl rfl))) (dgs_cons (dg_name (pg_name (i := 4) sc_top_of.nd rfl (Or.inl rfl))) (dgs_nil))))))) (dss_one (ds_ret (de_callH H_shifted hg (hr.mono (by decide)) (by rfl) (da_cons (de_op od_add (de_pv (pv 2)) (de_pv (pv 4))) (da_cons (de_pv (pv 3)) (da_nil))))))
theorem h_top_of (T : Tx K mg) (H_shifted : Has P w K mg base 1 "shifted" ["n", "shift"] F_shifted) : Has P w K mg base 2 "top_of" ["row"] F_top_of :=
  okH T.f_top_of sc_top_of cnt_top_of (fun f cdv A out s H E hg hr => d_top_of T H_shifted hg hr) ok_top_of
theorem d_L_one (T : Tx K mg) (H_L_draw : Has P w K mg base 1 "_law_draw" ["_law_deck_here", "_law_many"] F_L_draw) {f : Addr} {cdv : Value} {A : Around} {out : List Env} {s : Shared} {H : Hp} {E : XK} (hg : (bX P w K mg base N_L_one "_law_one" s_L_one f cdv A out s H E).A.guards = some []) (hr : Room 1 (bX P w K mg base N_L_one "_law_one" s_L_one f cdv A out s H E).A) :
    DSs (bX P w K mg base N_L_one "_law_one" s_L_one f cdv A out s H E) (defBody s_L_one) t_L_one :=
  dss_one (ds_ret (de_ix id_ix (de_pv (pv 1)) (de_callH H_L_draw hg (hr.mono (by decide)) (by rfl) (da_cons (de_pv (pv 0)) (da_cons (de_callB cd_len (by rfl) T.m_len (by decide +kernel) (da_cons (de_pv (pv 1)) (da_nil))) (da_nil))))))
theorem h_L_one (T : Tx K mg) (H_L_draw : Has P w K mg base 1 "_law_draw" ["_law_deck_here", "_law_many"] F_L_draw) : Has P w K mg base 2 "_law_one" ["_law_deck_here", "_law_items"] F_L_one :=
  okH T.f_L_one sc_L_one cnt_L_one (fun f cdv A out s H E hg hr => d_L_one T H_L_draw hg hr) ok_L_one
theorem d_L_place (T : Tx K mg) (H_L_binary : Has P w K mg base 1 "_law_binary" ["_law_m", "_law_e"] F_L_binary) {f : Addr} {cdv : Value} {A : Around} {out : List Env} {s : Shared} {H : Hp} {E : XK} (hg : (bX P w K mg base N_L_place "_law_place" s_L_place f cdv A out s H E).A.guards = some []) (hr : Room 1 (bX P w K mg base N_L_place "_law_place" s_L_place f cdv A out s H E).A) :
    DSs (bX P w K mg base N_L_place "_law_place" s_L_place f cdv A out s H E) (defBody s_L_place) t_L_place :=
  dss_cons (ds_asg (de_callH H_L_binary hg (hr.mono (by decide)) (by rfl) (da_cons (de_int) (da_cons (de_pv (pv 0)) (da_nil)))) (dg_seq rfl (dgs_cons (dg_name (pg_name (i := 1) sc_L_place.nd rfl (Or.inl rfl))) (dgs_cons (dg_name (pg_name (i := 2) sc_L_place.nd rfl (Or.inl rfl))) (dgs_nil))))) (dss_cons (ds_set (i := 3) sc_L_place.nd rfl (Or.inl rfl) (de_int)) (dss_cons (ds_while (dt_cmp od_ge (de_pv (pv 1)) (de_op od_mul (de_pv (pv 2)) (de_int)) (nomark _)) (dss_one (ds_par (i := 2) (j := 3) (da_cons (de_op od_mul (de_pv (pv 2)) (de_int)) (da_cons (de_op od_add (de_pv (pv 3)) (de_int)) (da_nil))) (fun _ p => ps_par (by rfl) sc_L_place.nd rfl rfl (by decide) rfl rfl p (by rfl))))) (dss_cons (ds_while (dt_cmp od_lt (de_pv (pv 1)) (de_pv (pv 2)) (nomark _)) (dss_one (ds_par (i := 1) (j := 3) (da_cons (de_op od_mul (de_pv (pv 1)) (de_int)) (da_cons (de_op od_sub (de_pv (pv 3)) (de_int)) (da_nil))) (fun _ p => ps_par (by rfl) sc_L_place.nd rfl rfl (by decide) rfl rfl p (by rfl))))) (dss_one (ds_ret (de_pv (pv 3)))))))
theorem h_L_place (T : Tx K mg) (H_L_binary : Has P w K mg base 1 "_law_binary" ["_law_m", "_law_e"] F_L_binary) : Has P w K mg base 2 "_law_place" ["_law_exponent"] F_L_place :=
  okH T.f_L_place sc_L_place cnt_L_place (fun f cdv A out s H E hg hr => d_L_place T H_L_binary hg hr) ok_L_place
theorem d_L_top (T : Tx K mg) (H_L_binary : Has P w K mg base 1 "_law_binary" ["_law_m", "_law_e"] F_L_binary) {f : Addr} {cdv : Value} {A : Around} {out : List Env} {s : Shared} {H : Hp} {E : XK} (hg : (bX P w K mg base N_L_top "_law_top" s_L_top f cdv A out s H E).A.guards = some []) (hr : Room 1 (bX P w K mg base N_L_top "_law_top" s_L_top f cdv A out s H E).A) :
    DSs (bX P w K mg base N_L_top "_law_top" s_L_top f cdv A out s H E) (defBody s_L_top) t_L_top :=
  dss_one (ds_ret (de_callH H_L_binary hg (hr.mono (by decide)) (by rfl) (da_cons (de_op od_add (de_ix id_ix (de_pv (pv 0)) (de_int)) (de_ix id_ix (de_pv (pv 0)) (de_int))) (da_cons (de_ix id_ix (de_pv (pv 0)) (de_int)) (da_nil)))))
theorem h_L_top (T : Tx K mg) (H_L_binary : Has P w K mg base 1 "_law_binary" ["_law_m", "_law_e"] F_L_binary) : Has P w K mg base 2 "_law_top" ["_law_row_here"] F_L_top :=
  okH T.f_L_top sc_L_top cnt_L_top (fun f cdv A out s H E hg hr => d_L_top T H_L_binary hg hr) ok_L_top
theorem d_L_form (T : Tx K mg) (H_L_draw : Has P w K mg base 1 "_law_draw" ["_law_deck_here", "_law_many"] F_L_draw) {f : Addr} {cdv : Value} {A : Around} {out : List Env} {s : Shared} {H : Hp} {E : XK} (hg : (bX P w K mg base N_L_form "_law_form" s_L_form f cdv A out s H E).A.guards = some []) (hr : Room 1 (bX P w K mg base N_L_form "_law_form" s_L_form f cdv A out s H E).A) :
    DSs (bX P w K mg base N_L_form "_law_form" s_L_form f cdv A out s H E) (defBody s_L_form) t_L_form :=
  dss_cons (ds_par (i := 1) (j := 2) (da_cons (de_op od_add (de_int) (de_callH H_L_draw hg (hr.mono (by decide)) (by rfl) (da_cons (de_pv (pv 0)) (da_cons (de_int) (da_nil))))) (da_cons (de_op od_sub (de_callH H_L_draw hg (hr.mono (by decide)) (by rfl) (da_cons (de_pv (pv 0)) (da_cons (de_int) (da_nil)))) (de_int)) (da_nil))) (fun _ p => ps_par (by rfl) sc_L_form.nd rfl rfl (by decide) rfl rfl p (by rfl))) (dss_one (ds_ret (de_tup (da_cons (de_pv (pv 1)) (da_cons (de_pv (pv 2)) (da_cons (de_op od_add (de_pv (pv 2)) (de_callH H_L_draw hg (hr.mono (by decide)) (by rfl) (da_cons (de_pv (pv 0)) (da_cons (de_int) (da_nil))))) (da_nil)))))))
theorem h_L_form (T : Tx K mg) (H_L_draw : Has P w K mg base 1 "_law_draw" ["_law_deck_here", "_law_many"] F_L_draw) : Has P w K mg base 2 "_law_form" ["_law_deck_here"] F_L_form :=
  okH T.f_L_form sc_L_form cnt_L_form (fun f cdv A out s H E hg hr => d_L_form T H_L_draw hg hr) ok_L_form
theorem d_value_of (T : Tx K mg) (H_count_of : Has P w K mg base 1 "count_of" ["form"] F_count_of) (H_is_between : Has P w K mg base 2 "is_between" ["value", "least", "greatest"] F_is_between) (H_parts_at : Has P w K mg base 1 "parts_at" ["form", "code"] F_parts_at) {f : Addr} {cdv : Value} {A : Around} {out : List Env} {s : Shared} {H : Hp} {E : XK} (hg : (bX P w K mg base N_value_of "value_of" s_value_of f cdv A out s H E).A.guards = some []) (hr : Room 2 (bX P w K mg base N_value_of "value_of" s_value_of f cdv A out s H E).A) :
    DSs (bX P w K mg base N_value_of "value_of" s_value_of f cdv A out s H E) (defBody s_value_of) t_value_of :=
  dss_cons (ds_if (dt_not (dt_val (de_callH H_is_between hg (hr.mono (by decide)) (by rfl) (da_cons (de_pv (pv 1)) (da_cons (de_int) (da_cons (de_op od_sub (de_callH H_count_of hg (hr.mono (by decide)) (by rfl) (da_cons (de_pv (pv 0)) (da_nil))) (de_int)) (da_nil))))))) (dss_one (ds_never)) (dss_nil)) (dss_one (ds_ret (de_callH H_parts_at hg (hr.mono (by decide)) (by rfl) (da_cons (de_pv (pv 0)) (da_cons (de_pv (pv 1)) (da_nil))))))
theorem h_value_of (T : Tx K mg) (H_count_of : Has P w K mg base 1 "count_of" ["form"] F_count_of) (H_is_between : Has P w K mg base 2 "is_between" ["value", "least", "greatest"] F_is_between) (H_parts_at : Has P w K mg base 1 "parts_at" ["form", "code"] F_parts_at) : Has P w K mg base 3 "value_of" ["form", "code"] F_value_of :=
  okH T.f_value_of sc_value_of cnt_value_of (fun f cdv A out s H E hg hr => d_value_of T H_count_of H_is_between H_parts_at hg hr) ok_value_of
theorem d_rough_position (T : Tx K mg) (H_exponent_at : Has P w K mg base 2 "exponent_at" ["form", "num", "den"] F_exponent_at) {f : Addr} {cdv : Value} {A : Around} {out : List Env} {s : Shared} {H : Hp} {E : XK} (hg : (bX P w K mg base N_rough_position "rough_position" s_rough_position f cdv A out s H E).A.guards = some []) (hr : Room 2 (bX P w K mg base N_rough_position "rough_position" s_rough_position f cdv A out s H E).A) :
    DSs (bX P w K mg base N_rough_position "rough_position" s_rough_position f cdv A out s H E) (defBody s_rough_position) t_rough_position :=
  dss_cons (ds_asg (de_pv (pv 0)) (dg_seq rfl (dgs_cons (dg_name (pg_name (i := 3) sc_rough_position.nd rfl (Or.inl rfl))) (dgs_cons (dg_name (pg_name (i := 4) sc_rough_position.nd rfl (Or.inl rfl))) (dgs_cons (dg_name (pg_name (i := 5) sc_rough_position.nd rfl (Or.inl rfl))) (dgs_nil)))))) (dss_cons (ds_set (i := 6) sc_rough_position.nd rfl (Or.inl rfl) (de_callH H_exponent_at hg (hr.mono (by decide)) (by rfl) (da_cons (de_pv (pv 0)) (da_cons (de_pv (pv 1)) (da_cons (de_pv (pv 2)) (da_nil)))))) (dss_cons (ds_if (dt_cmp od_ge (de_pv (pv 6)) (de_int) (nomark _)) (dss_one (ds_set (i := 2) sc_rough_position.nd rfl (Or.inl rfl) (de_op od_shl (de_pv (pv 2)) (de_pv (pv 6))))) (dss_one (ds_set (i := 1) sc_rough_position.nd rfl (Or.inl rfl) (de_op od_shl (de_pv (pv 1)) (de_un ud_neg (de_pv (pv 6))))))) (dss_one (ds_ret (de_tup (da_cons (de_op od_add (de_pv (pv 1)) (de_op od_mul (de_op od_shl (de_op od_sub (de_pv (pv 6)) (de_pv (pv 4))) (de_op od_sub (de_pv (pv 3)) (de_int))) (de_pv (pv 2)))) (da_cons (de_pv (pv 2)) (da_nil))))))))
theorem h_rough_position (T : Tx K mg) (H_exponent_at : Has P w K mg base 2 "exponent_at" ["form", "num", "den"] F_exponent_at) : Has P w K mg base 3 "rough_position" ["form", "num", "den"] F_rough_position :=
  okH T.f_rough_position sc_rough_position cnt_rough_position (fun f cdv A out s H E hg hr => d_rough_position T H_exponent_at hg hr) ok_rough_position
theorem d_scale_of (T : Tx K mg) (H_fraction_of : Has P w K mg base 2 "fraction_of" ["decimal"] F_fraction_of) (H_place_of : Has P w K mg base 2 "place_of" ["exponent"] F_place_of) (H_shifted : Has P w K mg base 1 "shifted" ["n", "shift"] F_shifted) {f : Addr} {cdv : Value} {A : Around} {out : List Env} {s : Shared} {H : Hp} {E : XK} (hg : (bX P w K mg base N_scale_of "scale_of" s_scale_of f cdv A out s H E).A.guards = some []) (hr : Room 2 (bX P w K mg base N_scale_of "scale_of" s_scale_of f cdv A out s H E).A) :
    DSs (bX P w K mg base N_scale_of "scale_of" s_scale_of f cdv A out s H E) (defBody s_scale_of) t_scale_of :=
  dss_cons (ds_asg (de_callH H_shifted hg (hr.mono (by decide)) (by rfl) (da_cons (de_int) (da_cons (de_op od_sub (de_pv (pv 0)) (de_int)) (da_nil)))) (dg_seq rfl (dgs_cons (dg_name (pg_name (i := 1) sc_scale_of.nd rfl (Or.inl rfl))) (dgs_cons (dg_name (pg_name (i := 2) sc_scale_of.nd rfl (Or.inl rfl))) (dgs_nil))))) (dss_cons (ds_asg (de_callH H_fraction_of hg (hr.mono (by decide)) (by rfl) (da_cons (de_tup (da_cons (de_int) (da_cons (de_un ud_neg (de_callH H_place_of hg (hr.mono (by decide)) (by rfl) (da_cons (de_pv (pv 0)) (da_nil)))) (da_nil)))) (da_nil))) (dg_seq rfl (dgs_cons (dg_name (pg_name (i := 3) sc_scale_of.nd rfl (Or.inl rfl))) (dgs_cons (dg_name (pg_name (i := 4) sc_scale_of.nd rfl (Or.inl rfl))) (dgs_nil))))) (dss_one (ds_ret (de_tup (da_cons (de_op od_mul (de_pv (pv 3)) (de_pv (pv 1))) (da_cons (de_op od_mul (de_pv (pv 4)) (de_pv (pv 2))) (da_nil)))))))
theorem h_scale_of (T : Tx K mg) (H_fraction_of : Has P w K mg base 2 "fraction_of" ["decimal"] F_fraction_of) (H_place_of : Has P w K mg base 2 "place_of" ["exponent"] F_place_of) (H_shifted : Has P w K mg base 1 "shifted" ["n", "shift"] F_shifted) : Has P w K mg base 3 "scale_of" ["exponent"] F_scale_of :=
  okH T.f_scale_of sc_scale_of cnt_scale_of (fun f cdv A out s H E hg hr => d_scale_of T H_fraction_of H_place_of H_shifted hg hr) ok_scale_of
theorem d_L_scale (T : Tx K mg) (H_L_binary : Has P w K mg base 1 "_law_binary" ["_law_m", "_law_e"] F_L_binary) (H_L_place : Has P w K mg base 2 "_law_place" ["_law_exponent"] F_L_place) (H_L_ten : Has P w K mg base 1 "_law_ten" ["_law_power"] F_L_ten) {f : Addr} {cdv : Value} {A : Around} {out : List Env} {s : Shared} {H : Hp} {E : XK} (hg : (bX P w K mg base N_L_scale "_law_scale" s_L_scale f cdv A out s H E).A.guards = some []) (hr : Room 2 (bX P w K mg base N_L_scale "_law_scale" s_L_scale f cdv A out s H E).A) :
    DSs (bX P w K mg base N_L_scale "_law_scale" s_L_scale f cdv A out s H E) (defBody s_L_scale) t_L_scale :=
  dss_cons (ds_asg (de_callH H_L_binary hg (hr.mono (by decide)) (by rfl) (da_cons (de_int) (da_cons (de_op od_sub (de_pv (pv 0)) (de_int)) (da_nil)))) (dg_seq rfl (dgs_cons (dg_name (pg_name (i := 1) sc_L_scale.nd rfl (Or.inl rfl))) (dgs_cons (dg_name (pg_name (i := 2) sc_L_scale.nd rfl (Or.inl rfl))) (dgs_nil))))) (dss_cons (ds_set (i := 3) sc_L_scale.nd rfl (Or.inl rfl) (de_callH H_L_place hg (hr.mono (by decide)) (by rfl) (da_cons (de_pv (pv 0)) (da_nil)))) (dss_one (ds_ret (de_ifExp (dt_cmp od_ge (de_pv (pv 3)) (de_int) (nomark _)) (de_tup (da_cons (de_pv (pv 1)) (da_cons (de_op od_mul (de_pv (pv 2)) (de_callH H_L_ten hg (hr.mono (by decide)) (by rfl) (da_cons (de_pv (pv 3)) (da_nil)))) (da_nil)))) (de_tup (da_cons (de_op od_mul (de_pv (pv 1)) (de_callH H_L_ten hg (hr.mono (by decide)) (by rfl) (da_cons (de_op od_sub (de_int) (de_pv (pv 3))) (da_nil)))) (da_cons (de_pv (pv 2)) (da_nil))))))))
theorem h_L_scale (T : Tx K mg) (H_L_binary : Has P w K mg base 1 "_law_binary" ["_law_m", "_law_e"] F_L_binary) (H_L_place : Has P w K mg base 2 "_law_place" ["_law_exponent"] F_L_place) (H_L_ten : Has P w K mg base 1 "_law_ten" ["_law_power"] F_L_ten) : Has P w K mg base 3 "_law_scale" ["_law_exponent"] F_L_scale :=
  okH T.f_L_scale sc_L_scale cnt_L_scale (fun f cdv A out s H E hg hr => d_L_scale T H_L_binary H_L_place H_L_ten hg hr) ok_L_scale
theorem d_read_fraction (T : Tx K mg) (H_greatest_read : Has P w K mg base 2 "greatest_read" ["form", "way"] F_greatest_read) (H_rough_position : Has P w K mg base 3 "rough_position" ["form", "num", "den"] F_rough_position) (H_rounded_by : Has P w K mg base 1 "rounded_by" ["way", "n", "d"] F_rounded_by) {f : Addr} {cdv : Value} {A : Around} {out : List Env} {s : Shared} {H : Hp} {E : XK} (hg : (bX P w K mg base N_read_fraction "read_fraction" s_read_fraction f cdv A out s H E).A.guards = some []) (hr : Room 3 (bX P w K mg base N_read_fraction "read_fraction" s_read_fraction f cdv A out s H E).A) :
    DSs (bX P w K mg base N_read_fraction "read_fraction" s_read_fraction f cdv A out s H E) (defBody s_read_fraction) t_read_fraction :=
  dss_cons (ds_asg (de_callH H_rough_position hg (hr.mono (by decide)) (by rfl) (da_cons (de_pv (pv 0)) (da_cons (de_pv (pv 2)) (da_cons (de_pv (pv 3)) (da_nil))))) (dg_seq rfl (dgs_cons (dg_name (pg_name (i := 4) sc_read_fraction.nd rfl (Or.inl rfl))) (dgs_cons (dg_name (pg_name (i := 5) sc_read_fraction.nd rfl (Or.inl rfl))) (dgs_nil))))) (dss_one (ds_ret (de_callB (cd_min2 rfl) (by rfl) T.m_min (by decide +kernel) (da_cons (de_callH H_rounded_by hg (hr.mono (by decide)) (by rfl) (da_cons (de_pv (pv 1)) (da_cons (de_pv (pv 4)) (da_cons (de_pv (pv 5)) (da_nil))))) (da_cons (de_callH H_greatest_read hg (hr.mono (by decide)) (by rfl) (da_cons (de_pv (pv 0)) (da_cons (de_pv (pv 1)) (da_nil)))) (da_nil))))))
theorem h_read_fraction (T : Tx K mg) (H_greatest_read : Has P w K mg base 2 "greatest_read" ["form", "way"] F_greatest_read) (H_rough_position : Has P w K mg base 3 "rough_position" ["form", "num", "den"] F_rough_position) (H_rounded_by : Has P w K mg base 1 "rounded_by" ["way", "n", "d"] F_rounded_by) : Has P w K mg base 4 "read_fraction" ["form", "way", "num", "den"] F_read_fraction :=
  okH T.f_read_fraction sc_read_fraction cnt_read_fraction (fun f cdv A out s H E hg hr => d_read_fraction T H_greatest_read H_rough_position H_rounded_by hg hr) ok_read_fraction
theorem d_fast_number (T : Tx K mg) (H_count_of : Has P w K mg base 1 "count_of" ["form"] F_count_of) (H_fast_span : Has P w K mg base 1 "fast_span" ["form", "exponent"] F_fast_span) (H_value_of : Has P w K mg base 3 "value_of" ["form", "code"] F_value_of) {f : Addr} {cdv : Value} {A : Around} {out : List Env} {s : Shared} {H : Hp} {E : XK} (hg : (bX P w K mg base N_fast_number "fast_number" s_fast_number f cdv A out s H E).A.guards = some []) (hr : Room 3 (bX P w K mg base N_fast_number "fast_number" s_fast_number f cdv A out s H E).A) :
    DSs (bX P w K mg base N_fast_number "fast_number" s_fast_number f cdv A out s H E) (defBody s_fast_number) t_fast_number :=
  dss_cons (ds_if (dt_cmp (od_eq hr.units) (de_pv (pv 2)) (de_callH H_count_of hg (hr.mono (by decide)) (by rfl) (da_cons (de_pv (pv 0)) (da_nil))) (nomark _)) (dss_one (ds_ret (de_non))) (dss_nil)) (dss_cons (ds_asg (de_callH H_value_of hg (hr.mono (by decide)) (by rfl) (da_cons (de_pv (pv 0)) (da_cons (de_pv (pv 2)) (da_nil)))) (dg_seq rfl (dgs_cons (dg_name (pg_name (i := 3) sc_fast_number.nd rfl (Or.inl rfl))) (dgs_cons (dg_name (pg_name (i := 4) sc_fast_number.nd rfl (Or.inl rfl))) (dgs_nil))))) (dss_cons (ds_asg (de_callH H_fast_span hg (hr.mono (by decide)) (by rfl) (da_cons (de_pv (pv 0)) (da_cons (de_ix id_ix (de_pv (pv 1)) (de_int)) (da_nil)))) (dg_seq rfl (dgs_cons (dg_name (pg_name (i := 5) sc_fast_number.nd rfl (Or.inl rfl))) (dgs_cons (dg_name (pg_name (i := 6) sc_fast_number.nd rfl (Or.inl rfl))) (dgs_nil))))) (dss_one (ds_ret (de_ifExp (DW.dt (dw_and (dt_cmp (od_eq hr.units) (de_pv (pv 4)) (de_ix id_ix (de_pv (pv 1)) (de_int)) (nomark _)) (dw_and1 (dt_chain od_le od_lt (de_pv (pv 5)) (de_pv (pv 3)) (de_pv (pv 6)))))) (de_pv (pv 3)) (de_non))))))
theorem h_fast_number (T : Tx K mg) (H_count_of : Has P w K mg base 1 "count_of" ["form"] F_count_of) (H_fast_span : Has P w K mg base 1 "fast_span" ["form", "exponent"] F_fast_span) (H_value_of : Has P w K mg base 3 "value_of" ["form", "code"] F_value_of) : Has P w K mg base 4 "fast_number" ["form", "row", "code"] F_fast_number :=
  okH T.f_fast_number sc_fast_number cnt_fast_number (fun f cdv A out s H E hg hr => d_fast_number T H_count_of H_fast_span H_value_of hg hr) ok_fast_number
theorem d_nearest_by (T : Tx K mg) (H_scale_of : Has P w K mg base 3 "scale_of" ["exponent"] F_scale_of) {f : Addr} {cdv : Value} {A : Around} {out : List Env} {s : Shared} {H : Hp} {E : XK} (hg : (bX P w K mg base N_nearest_by "nearest_by" s_nearest_by f cdv A out s H E).A.guards = some []) (hr : Room 3 (bX P w K mg base N_nearest_by "nearest_by" s_nearest_by f cdv A out s H E).A) :
    DSs (bX P w K mg base N_nearest_by "nearest_by" s_nearest_by f cdv A out s H E) (defBody s_nearest_by) t_nearest_by :=
  dss_cons (ds_asg (de_callH H_scale_of hg (hr.mono (by decide)) (by rfl) (da_cons (de_pv (pv 0)) (da_nil))) (dg_seq rfl (dgs_cons (dg_name (pg_name (i := 3) sc_nearest_by.nd rfl (Or.inl rfl))) (dgs_cons (dg_name (pg_name (i := 4) sc_nearest_by.nd rfl (Or.inl rfl))) (dgs_nil))))) (dss_cons (ds_if (dt_cmp (od_eq hr.units) (de_op od_mod (de_op od_mul (de_op od_mul (de_int) (de_pv (pv 1))) (de_pv (pv 3))) (de_op od_mul (de_int) (de_pv (pv 4)))) (de_pv (pv 4)) (nomark _)) (dss_one (ds_ret (de_op od_add (de_op od_fdiv (de_pv (pv 2)) (de_int)) (de_op od_mod (de_op od_fdiv (de_pv (pv 2)) (de_int)) (de_int))))) (dss_nil)) (dss_one (ds_ret (de_op od_fdiv (de_op od_add (de_pv (pv 2)) (de_int)) (de_int)))))
theorem h_nearest_by (T : Tx K mg) (H_scale_of : Has P w K mg base 3 "scale_of" ["exponent"] F_scale_of) : Has P w K mg base 4 "nearest_by" ["exponent", "m", "doubled"] F_nearest_by :=
  okH T.f_nearest_by sc_nearest_by cnt_nearest_by (fun f cdv A out s H E hg hr => d_nearest_by T H_scale_of hg hr) ok_nearest_by
theorem d_L_row (T : Tx K mg) (H_L_cut : Has P w K mg base 1 "_law_cut" ["_law_num", "_law_den", "_law_bits"] F_L_cut) (H_L_draw : Has P w K mg base 1 "_law_draw" ["_law_deck_here", "_law_many"] F_L_draw) (H_L_scale : Has P w K mg base 3 "_law_scale" ["_law_exponent"] F_L_scale) {f : Addr} {cdv : Value} {A : Around} {out : List Env} {s : Shared} {H : Hp} {E : XK} (hg : (bX P w K mg base N_L_row "_law_row" s_L_row f cdv A out s H E).A.guards = some []) (hr : Room 3 (bX P w K mg base N_L_row "_law_row" s_L_row f cdv A out s H E).A) :
    DSs (bX P w K mg base N_L_row "_law_row" s_L_row f cdv A out s H E) (defBody s_L_row) t_L_row :=
  dss_cons (ds_asg (de_callH H_L_scale hg (hr.mono (by decide)) (by rfl) (da_cons (de_pv (pv 1)) (da_nil))) (dg_seq rfl (dgs_cons (dg_name (pg_name (i := 2) sc_L_row.nd rfl (Or.inl rfl))) (dgs_cons (dg_name (pg_name (i := 3) sc_L_row.nd rfl (Or.inl rfl))) (dgs_nil))))) (dss_cons (ds_set (i := 4) sc_L_row.nd rfl (Or.inl rfl) (de_op od_add (de_int) (de_callH H_L_draw hg (hr.mono (by decide)) (by rfl) (da_cons (de_pv (pv 0)) (da_cons (de_ix id_ix (de_lst (da_cons (de_int) (da_cons (de_int) (da_cons (de_int) (da_cons (de_int) (da_nil)))))) (de_callH H_L_draw hg (hr.mono (by decide)) (by rfl) (da_cons (de_pv (pv 0)) (da_cons (de_int) (da_nil))))) (da_nil)))))) (dss_cons (ds_asg (de_callH H_L_cut hg (hr.mono (by decide)) (by rfl) (da_cons (de_pv (pv 2)) (da_cons (de_pv (pv 3)) (da_cons (de_pv (pv 4)) (da_nil))))) (dg_seq rfl (dgs_cons (dg_name (pg_name (i := 5) sc_L_row.nd rfl (Or.inl rfl))) (dgs_cons (dg_name (pg_name (i := 6) sc_L_row.nd rfl (Or.inl rfl))) (dgs_cons (dg_name (pg_name (i := 7) sc_L_row.nd rfl (Or.inl rfl))) (dgs_nil)))))) (dss_cons (ds_set (i := 8) sc_L_row.nd rfl (Or.inl rfl) (de_callH H_L_draw hg (hr.mono (by decide)) (by rfl) (da_cons (de_pv (pv 0)) (da_cons (de_int) (da_nil))))) (dss_cons (ds_if (dt_cmp (od_eq hr.units) (de_pv (pv 8)) (de_int) (nomark _)) (dss_one (ds_ret (de_tup (da_cons (de_pv (pv 1)) (da_cons (de_callB (cd_max2 rfl) (by rfl) T.m_max (by decide +kernel) (da_cons (de_int) (da_cons (de_op od_sub (de_op od_add (de_pv (pv 5)) (de_callH H_L_draw hg (hr.mono (by decide)) (by rfl) (da_cons (de_pv (pv 0)) (da_cons (de_int) (da_nil))))) (de_int)) (da_nil)))) (da_cons (de_pv (pv 6)) (da_cons (de_callH H_L_draw hg (hr.mono (by decide)) (by rfl) (da_cons (de_pv (pv 0)) (da_cons (de_int) (da_nil)))) (da_nil)))))))) (dss_nil)) (dss_cons (ds_if (dt_cmp (od_eq hr.units) (de_pv (pv 8)) (de_int) (nomark _)) (dss_one (ds_ret (de_tup (da_cons (de_pv (pv 1)) (da_cons (de_op od_add (de_int) (de_callH H_L_draw hg (hr.mono (by decide)) (by rfl) (da_cons (de_pv (pv 0)) (da_cons (de_op od_shl (de_int) (de_pv (pv 4))) (da_nil))))) (da_cons (de_pv (pv 6)) (da_cons (de_callH H_L_draw hg (hr.mono (by decide)) (by rfl) (da_cons (de_pv (pv 0)) (da_cons (de_int) (da_nil)))) (da_nil)))))))) (dss_nil)) (dss_cons (ds_if (dt_cmp (od_eq hr.units) (de_pv (pv 8)) (de_int) (nomark _)) (dss_one (ds_ret (de_tup (da_cons (de_pv (pv 1)) (da_cons (de_pv (pv 5)) (da_cons (de_op od_sub (de_op od_add (de_pv (pv 6)) (de_callH H_L_draw hg (hr.mono (by decide)) (by rfl) (da_cons (de_pv (pv 0)) (da_cons (de_int) (da_nil))))) (de_int)) (da_cons (de_pv (pv 7)) (da_nil)))))))) (dss_nil)) (dss_one (ds_ret (de_tup (da_cons (de_pv (pv 1)) (da_cons (de_pv (pv 5)) (da_cons (de_pv (pv 6)) (da_cons (de_pv (pv 7)) (da_nil))))))))))))))
theorem h_L_row (T : Tx K mg) (H_L_cut : Has P w K mg base 1 "_law_cut" ["_law_num", "_law_den", "_law_bits"] F_L_cut) (H_L_draw : Has P w K mg base 1 "_law_draw" ["_law_deck_here", "_law_many"] F_L_draw) (H_L_scale : Has P w K mg base 3 "_law_scale" ["_law_exponent"] F_L_scale) : Has P w K mg base 4 "_law_row" ["_law_deck_here", "_law_exponent"] F_L_row :=
  okH T.f_L_row sc_L_row cnt_L_row (fun f cdv A out s H E hg hr => d_L_row T H_L_cut H_L_draw H_L_scale hg hr) ok_L_row
theorem d_L_due (T : Tx K mg) (H_L_place : Has P w K mg base 2 "_law_place" ["_law_exponent"] F_L_place) (H_L_plain : Has P w K mg base 1 "_law_plain" ["_law_d", "_law_q"] F_L_plain) (H_L_scale : Has P w K mg base 3 "_law_scale" ["_law_exponent"] F_L_scale) {f : Addr} {cdv : Value} {A : Around} {out : List Env} {s : Shared} {H : Hp} {E : XK} (hg : (bX P w K mg base N_L_due "_law_due" s_L_due f cdv A out s H E).A.guards = some []) (hr : Room 3 (bX P w K mg base N_L_due "_law_due" s_L_due f cdv A out s H E).A) :
    DSs (bX P w K mg base N_L_due "_law_due" s_L_due f cdv A out s H E) (defBody s_L_due) t_L_due :=
  dss_cons (ds_asg (de_callH H_L_scale hg (hr.mono (by decide)) (by rfl) (da_cons (de_pv (pv 1)) (da_nil))) (dg_seq rfl (dgs_cons (dg_name (pg_name (i := 5) sc_L_due.nd rfl (Or.inl rfl))) (dgs_cons (dg_name (pg_name (i := 6) sc_L_due.nd rfl (Or.inl rfl))) (dgs_nil))))) (dss_cons (ds_asg (de_pv (pv 4)) (dg_seq rfl (dgs_cons (dg_name (pg_name (i := 7) sc_L_due.nd rfl (Or.inl rfl))) (dgs_cons (dg_name (pg_name (i := 8) sc_L_due.nd rfl (Or.inl rfl))) (dgs_cons (dg_name (pg_name (i := 9) sc_L_due.nd rfl (Or.inl rfl))) (dgs_nil)))))) (dss_cons (ds_par (i := 10) (j := 11) (da_cons (de_op od_add (de_pv (pv 7)) (de_int)) (da_cons (de_pv (pv 9)) (da_nil))) (fun _ p => ps_par (by rfl) sc_L_due.nd rfl rfl (by decide) rfl rfl p (by rfl))) (dss_cons (ds_if (DW.dt (dw_and (dt_cmp (od_eq hr.units) (de_op od_mod (de_callTy cd_int (by rfl) T.m_int (by decide +kernel) (da_cons (de_op od_mul (de_op od_sub (de_op od_mul (de_int) (de_pv (pv 0))) (de_int)) (de_pv (pv 5))) (da_nil))) (de_pv (pv 6))) (de_int) (nomark _)) (dw_and1 (DW.dt (dw_or (dt_cmp (od_eq hr.units) (de_pv (pv 2)) (de_str) (nomark _)) (dw_or1 (dt_val (de_pv (pv 3))))))))) (dss_one (ds_set (i := 10) sc_L_due.nd rfl (Or.inl rfl) (de_pv (pv 7)))) (dss_nil)) (dss_cons (ds_if (DW.dt (dw_and (dt_cmp (od_eq hr.units) (de_op od_mod (de_callTy cd_int (by rfl) T.m_int (by decide +kernel) (da_cons (de_op od_mul (de_op od_add (de_op od_mul (de_int) (de_pv (pv 0))) (de_int)) (de_pv (pv 5))) (da_nil))) (de_pv (pv 6))) (de_int) (nomark _)) (dw_and1 (DW.dt (dw_or (dt_cmp (od_eq hr.units) (de_pv (pv 2)) (de_str) (nomark _)) (dw_or1 (dt_not (dt_val (de_pv (pv 3)))))))))) (dss_one (ds_set (i := 11) sc_L_due.nd rfl (Or.inl rfl) (de_op od_sub (de_pv (pv 9)) (de_int)))) (dss_nil)) (dss_cons (ds_set (i := 12) sc_L_due.nd rfl (Or.inl rfl) (de_op od_mul (de_op od_fdiv (de_pv (pv 11)) (de_int)) (de_int))) (dss_cons (ds_if (dt_cmp od_ge (de_pv (pv 12)) (de_pv (pv 10)) (nomark _)) (dss_one (ds_ret (de_callH H_L_plain hg (hr.mono (by decide)) (by rfl) (da_cons (de_pv (pv 12)) (da_cons (de_callH H_L_place hg (hr.mono (by decide)) (by rfl) (da_cons (de_pv (pv 1)) (da_nil))) (da_nil)))))) (dss_nil)) (dss_cons (ds_if (DW.dt (dw_and (dt_cmp (od_eq hr.units) (de_op od_mod (de_callTy cd_int (by rfl) T.m_int (by decide +kernel) (da_cons (de_op od_mul (de_op od_mul (de_int) (de_pv (pv 0))) (de_pv (pv 5))) (da_nil))) (de_pv (pv 6))) (de_int) (nomark _)) (dw_and1 (dt_cmp (od_eq hr.units) (de_op od_mod (de_callTy cd_int (by rfl) T.m_int (by decide +kernel) (da_cons (de_op od_fdiv (de_op od_mul (de_op od_mul (de_int) (de_pv (pv 0))) (de_pv (pv 5))) (de_pv (pv 6))) (da_nil))) (de_int)) (de_int) (nomark _))))) (dss_cons (ds_setLc (i := 13) (own := [("_law_n", 14)]) (di_tup (de_tup (da_cons (de_op od_fdiv (de_pv (pv 8)) (de_int)) (da_cons (de_op od_add (de_op od_fdiv (de_pv (pv 8)) (de_int)) (de_int)) (da_nil))))) (cg_name (by decide)) (lcIf (fun _ _ _ _ _ => dt_cmp (od_eq hr.units) (de_op od_mod (de_callTy cd_int (by rfl) T.m_int (by decide +kernel) (da_cons (de_pv (pv 14)) (da_nil))) (de_int)) (de_int) (nomark _))) (fun _ _ _ _ _ => de_pv (pv 14)) (fun _ _ _ a b c => ps_setLc (i := 13) (own := [("_law_n", 14)]) rfl sc_L_due.nd rfl rfl (sw_true rfl rfl rfl (by decide +kernel)) a (blkOk_by (N := N_L_due) (sc := defScope s_L_due) (by decide +kernel)) (fun _ _ _ _ _ => pg_name (i := 14) sc_L_due.nd rfl (Or.inl rfl)) b c)) (dss_one (ds_ret (de_callH H_L_plain hg (hr.mono (by decide)) (by rfl) (da_cons (de_ix id_ix (de_pv (pv 13)) (de_int)) (da_cons (de_callH H_L_place hg (hr.mono (by decide)) (by rfl) (da_cons (de_pv (pv 1)) (da_nil))) (da_nil))))))) (dss_nil)) (dss_one (ds_ret (de_callH H_L_plain hg (hr.mono (by decide)) (by rfl) (da_cons (de_op od_fdiv (de_op od_add (de_pv (pv 8)) (de_int)) (de_int)) (da_cons (de_callH H_L_place hg (hr.mono (by decide)) (by rfl) (da_cons (de_pv (pv 1)) (da_nil))) (da_nil)))))))))))))
theorem h_L_due (T : Tx K mg) (H_L_place : Has P w K mg base 2 "_law_place" ["_law_exponent"] F_L_place) (H_L_plain : Has P w K mg base 1 "_law_plain" ["_law_d", "_law_q"] F_L_plain) (H_L_scale : Has P w K mg base 3 "_law_scale" ["_law_exponent"] F_L_scale) : Has P w K mg base 4 "_law_due" ["_law_m", "_law_e", "_law_way", "_law_is_even", "_law_quotients_here"] F_L_due :=
  okH T.f_L_due sc_L_due cnt_L_due (fun f cdv A out s H E hg hr => d_L_due T H_L_place H_L_plain H_L_scale hg hr) ok_L_due
theorem d_end_of (T : Tx K mg) (H_read_fraction : Has P w K mg base 4 "read_fraction" ["form", "way", "num", "den"] F_read_fraction) (H_scale_of : Has P w K mg base 3 "scale_of" ["exponent"] F_scale_of) (H_shifted : Has P w K mg base 1 "shifted" ["n", "shift"] F_shifted) {f : Addr} {cdv : Value} {A : Around} {out : List Env} {s : Shared} {H : Hp} {E : XK} (hg : (bX P w K mg base N_end_of "end_of" s_end_of f cdv A out s H E).A.guards = some []) (hr : Room 4 (bX P w K mg base N_end_of "end_of" s_end_of f cdv A out s H E).A) :
    DSs (bX P w K mg base N_end_of "end_of" s_end_of f cdv A out s H E) (defBody s_end_of) t_end_of :=
  dss_cons (ds_asg (de_callH H_scale_of hg (hr.mono (by decide)) (by rfl) (da_cons (de_pv (pv 2)) (da_nil))) (dg_seq rfl (dgs_cons (dg_name (pg_name (i := 5) sc_end_of.nd rfl (Or.inl rfl))) (dgs_cons (dg_name (pg_name (i := 6) sc_end_of.nd rfl (Or.inl rfl))) (dgs_nil))))) (dss_cons (ds_asg (de_callH H_shifted hg (hr.mono (by decide)) (by rfl) (da_cons (de_pv (pv 3)) (da_cons (de_op od_sub (de_pv (pv 2)) (de_int)) (da_nil)))) (dg_seq rfl (dgs_cons (dg_name (pg_name (i := 7) sc_end_of.nd rfl (Or.inl rfl))) (dgs_cons (dg_name (pg_name (i := 8) sc_end_of.nd rfl (Or.inl rfl))) (dgs_nil))))) (dss_one (ds_ret (de_tup (da_cons (de_cmp (od_eq hr.units) (de_op od_mod (de_op od_mul (de_pv (pv 3)) (de_pv (pv 5))) (de_pv (pv 6))) (de_int) (nomark _)) (da_cons (de_cmp (od_eq hr.units) (de_callH H_read_fraction hg (hr.mono (by decide)) (by rfl) (da_cons (de_pv (pv 0)) (da_cons (de_pv (pv 1)) (da_cons (de_pv (pv 7)) (da_cons (de_pv (pv 8)) (da_nil)))))) (de_pv (pv 4)) (nomark _)) (da_nil)))))))
theorem h_end_of (T : Tx K mg) (H_read_fraction : Has P w K mg base 4 "read_fraction" ["form", "way", "num", "den"] F_read_fraction) (H_scale_of : Has P w K mg base 3 "scale_of" ["exponent"] F_scale_of) (H_shifted : Has P w K mg base 1 "shifted" ["n", "shift"] F_shifted) : Has P w K mg base 5 "end_of" ["form", "way", "exponent", "half", "code"] F_end_of :=
  okH T.f_end_of sc_end_of cnt_end_of (fun f cdv A out s H E hg hr => d_end_of T H_read_fraction H_scale_of H_shifted hg hr) ok_end_of
theorem d_fast_shortest (T : Tx K mg) (H_end_of : Has P w K mg base 5 "end_of" ["form", "way", "exponent", "half", "code"] F_end_of) (H_fast_number : Has P w K mg base 4 "fast_number" ["form", "row", "code"] F_fast_number) (H_nearest_by : Has P w K mg base 4 "nearest_by" ["exponent", "m", "doubled"] F_nearest_by) (H_place_of : Has P w K mg base 2 "place_of" ["exponent"] F_place_of) (H_plain_decimal : Has P w K mg base 1 "plain_decimal" ["decimal"] F_plain_decimal) (H_top_of : Has P w K mg base 2 "top_of" ["row"] F_top_of) {f : Addr} {cdv : Value} {A : Around} {out : List Env} {s : Shared} {H : Hp} {E : XK} (hg : (bX P w K mg base N_fast_shortest "fast_shortest" s_fast_shortest f cdv A out s H E).A.guards = some []) (hr : Room 5 (bX P w K mg base N_fast_shortest "fast_shortest" s_fast_shortest f cdv A out s H E).A) :
    DSs (bX P w K mg base N_fast_shortest "fast_shortest" s_fast_shortest f cdv A out s H E) (defBody s_fast_shortest) t_fast_shortest :=
  dss_cons (ds_set (i := 4) sc_fast_shortest.nd rfl (Or.inl rfl) (de_callH H_fast_number hg (hr.mono (by decide)) (by rfl) (da_cons (de_pv (pv 0)) (da_cons (de_pv (pv 2)) (da_cons (de_pv (pv 3)) (da_nil)))))) (dss_cons (ds_if (DW.dt (dw_or (dt_cmp od_notIn (de_pv (pv 1)) (de_tup (da_cons (de_str) (da_cons (de_str) (da_nil)))) (by rfl)) (dw_or1 (dt_cmp od_isN (de_pv (pv 4)) (de_non) (nomark _))))) (dss_one (ds_ret (de_non))) (dss_nil)) (dss_cons (ds_set (i := 5) sc_fast_shortest.nd rfl (Or.inl rfl) (de_ix id_ix (de_pv (pv 2)) (de_int))) (dss_cons (ds_asg (de_callH H_top_of hg (hr.mono (by decide)) (by rfl) (da_cons (de_pv (pv 2)) (da_nil))) (dg_seq rfl (dgs_cons (dg_name (pg_name (i := 6) sc_fast_shortest.nd rfl (Or.inl rfl))) (dgs_cons (dg_name (pg_name (i := 7) sc_fast_shortest.nd rfl (Or.inl rfl))) (dgs_nil))))) (dss_cons (ds_set (i := 8) sc_fast_shortest.nd rfl (Or.inl rfl) (de_op od_add (de_op od_fdiv (de_op od_mul (de_op od_sub (de_op od_mul (de_int) (de_pv (pv 4))) (de_int)) (de_pv (pv 6))) (de_pv (pv 7))) (de_int))) (dss_cons (ds_set (i := 9) sc_fast_shortest.nd rfl (Or.inl rfl) (de_op od_fdiv (de_op od_mul (de_op od_add (de_op od_mul (de_int) (de_pv (pv 4))) (de_int)) (de_pv (pv 6))) (de_pv (pv 7)))) (dss_cons (ds_asg (de_callH H_end_of hg (hr.mono (by decide)) (by rfl) (da_cons (de_pv (pv 0)) (da_cons (de_pv (pv 1)) (da_cons (de_pv (pv 5)) (da_cons (de_op od_sub (de_op od_mul (de_int) (de_pv (pv 4))) (de_int)) (da_cons (de_pv (pv 3)) (da_nil))))))) (dg_seq rfl (dgs_cons (dg_name (pg_name (i := 10) sc_fast_shortest.nd rfl (Or.inl rfl))) (dgs_cons (dg_name (pg_name (i := 11) sc_fast_shortest.nd rfl (Or.inl rfl))) (dgs_nil))))) (dss_cons (ds_if (DW.dt (dw_and (dt_val (de_pv (pv 10))) (dw_and1 (dt_val (de_pv (pv 11)))))) (dss_one (ds_set (i := 8) sc_fast_shortest.nd rfl (Or.inl rfl) (de_op od_sub (de_pv (pv 8)) (de_int)))) (dss_nil)) (dss_cons (ds_asg (de_callH H_end_of hg (hr.mono (by decide)) (by rfl) (da_cons (de_pv (pv 0)) (da_cons (de_pv (pv 1)) (da_cons (de_pv (pv 5)) (da_cons (de_op od_add (de_op od_mul (de_int) (de_pv (pv 4))) (de_int)) (da_cons (de_pv (pv 3)) (da_nil))))))) (dg_seq rfl (dgs_cons (dg_name (pg_name (i := 10) sc_fast_shortest.nd rfl (Or.inl rfl))) (dgs_cons (dg_name (pg_name (i := 11) sc_fast_shortest.nd rfl (Or.inl rfl))) (dgs_nil))))) (dss_cons (ds_if (DW.dt (dw_and (dt_val (de_pv (pv 10))) (dw_and1 (dt_not (dt_val (de_pv (pv 11))))))) (dss_one (ds_set (i := 9) sc_fast_shortest.nd rfl (Or.inl rfl) (de_op od_sub (de_pv (pv 9)) (de_int)))) (dss_nil)) (dss_cons (ds_set (i := 12) sc_fast_shortest.nd rfl (Or.inl rfl) (de_op od_sub (de_pv (pv 9)) (de_op od_mod (de_pv (pv 9)) (de_int)))) (dss_cons (ds_if (dt_cmp od_lt (de_pv (pv 12)) (de_pv (pv 8)) (nomark _)) (dss_one (ds_set (i := 12) sc_fast_shortest.nd rfl (Or.inl rfl) (de_callH H_nearest_by hg (hr.mono (by decide)) (by rfl) (da_cons (de_pv (pv 5)) (da_cons (de_pv (pv 4)) (da_cons (de_op od_fdiv (de_op od_mul (de_op od_mul (de_int) (de_pv (pv 4))) (de_pv (pv 6))) (de_pv (pv 7))) (da_nil))))))) (dss_nil)) (dss_one (ds_ret (de_callH H_plain_decimal hg (hr.mono (by decide)) (by rfl) (da_cons (de_tup (da_cons (de_pv (pv 12)) (da_cons (de_callH H_place_of hg (hr.mono (by decide)) (by rfl) (da_cons (de_pv (pv 5)) (da_nil))) (da_nil)))) (da_nil))))))))))))))))
theorem h_fast_shortest (T : Tx K mg) (H_end_of : Has P w K mg base 5 "end_of" ["form", "way", "exponent", "half", "code"] F_end_of) (H_fast_number : Has P w K mg base 4 "fast_number" ["form", "row", "code"] F_fast_number) (H_nearest_by : Has P w K mg base 4 "nearest_by" ["exponent", "m", "doubled"] F_nearest_by) (H_place_of : Has P w K mg base 2 "place_of" ["exponent"] F_place_of) (H_plain_decimal : Has P w K mg base 1 "plain_decimal" ["decimal"] F_plain_decimal) (H_top_of : Has P w K mg base 2 "top_of" ["row"] F_top_of) : Has P w K mg base 6 "fast_shortest" ["form", "way", "row", "code"] F_fast_shortest :=
  okH T.f_fast_shortest sc_fast_shortest cnt_fast_shortest (fun f cdv A out s H E hg hr => d_fast_shortest T H_end_of H_fast_number H_nearest_by H_place_of H_plain_decimal H_top_of hg hr) ok_fast_shortest
theorem d_L_right (T : Tx K mg) (H_L_due : Has P w K mg base 4 "_law_due" ["_law_m", "_law_e", "_law_way", "_law_is_even", "_law_quotients_here"] F_L_due) (H_L_fast : Has P w K mg base 1 "_law_fast" ["_law_form_here", "_law_exponent"] F_L_fast) (H_L_quotients : Has P w K mg base 1 "_law_quotients" ["_law_m", "_law_value"] F_L_quotients) (H_L_top : Has P w K mg base 2 "_law_top" ["_law_row_here"] F_L_top) (H_count_of : Has P w K mg base 1 "count_of" ["form"] F_count_of) (H_fast_shortest : Has P w K mg base 6 "fast_shortest" ["form", "way", "row", "code"] F_fast_shortest) {f : Addr} {cdv : Value} {A : Around} {out : List Env} {s : Shared} {H : Hp} {E : XK} (hg : (bX P w K mg base N_L_right "_law_right" s_L_right f cdv A out s H E).A.guards = some []) (hr : Room 6 (bX P w K mg base N_L_right "_law_right" s_L_right f cdv A out s H E).A) :
    DSs (bX P w K mg base N_L_right "_law_right" s_L_right f cdv A out s H E) (defBody s_L_right) t_L_right :=
  dss_cons (ds_asg (de_pv (pv 0)) (dg_seq rfl (dgs_cons (dg_name (pg_name (i := 2) sc_L_right.nd rfl (Or.inl rfl))) (dgs_cons (dg_name (pg_name (i := 3) sc_L_right.nd rfl (Or.inl rfl))) (dgs_cons (dg_name (pg_name (i := 4) sc_L_right.nd rfl (Or.inl rfl))) (dgs_nil)))))) (dss_cons (ds_par (i := 5) (j := 6) (da_cons (de_callH H_L_fast hg (hr.mono (by decide)) (by rfl) (da_cons (de_pv (pv 0)) (da_cons (de_ix id_ix (de_pv (pv 1)) (de_int)) (da_nil)))) (da_cons (de_callH H_L_top hg (hr.mono (by decide)) (by rfl) (da_cons (de_pv (pv 1)) (da_nil))) (da_nil))) (fun _ p => ps_par (by rfl) sc_L_right.nd rfl rfl (by decide) rfl rfl p (by rfl))) (dss_cons (ds_for (di_range1 (by rfl) T.m_range (da_cons (de_op od_add (de_callH H_count_of hg (hr.mono (by decide)) (by rfl) (da_cons (de_pv (pv 0)) (da_nil))) (de_int)) (da_nil)) (fun _ p => pi_range1 (by rfl) T.m_range p)) (dg_name (pg_name (i := 7) sc_L_right.nd rfl (Or.inl rfl))) (dss_cons (ds_set (i := 8) sc_L_right.nd rfl (Or.inl rfl) (de_op od_sub (de_pv (pv 7)) (de_op od_mul (de_op od_sub (de_ix id_ix (de_pv (pv 1)) (de_int)) (de_pv (pv 3))) (de_op od_shl (de_int) (de_op od_sub (de_pv (pv 2)) (de_int)))))) (dss_one (ds_for (di_tup (de_tup (da_cons (de_str) (da_cons (de_str) (da_cons (de_str) (da_cons (de_str) (da_cons (de_str) (da_nil)))))))) (dg_name (pg_name (i := 9) sc_L_right.nd rfl (Or.inl rfl))) (dss_cons (ds_set (i := 10) sc_L_right.nd rfl (Or.inl rfl) (de_non)) (dss_cons (ds_if (DW.dt (dw_and (dt_cmp od_in (de_pv (pv 8)) (de_pv (pv 5)) (by rfl)) (dw_and1 (dt_cmp od_in (de_pv (pv 9)) (de_tup (da_cons (de_str) (da_cons (de_str) (da_nil)))) (by rfl))))) (dss_one (ds_set (i := 10) sc_L_right.nd rfl (Or.inl rfl) (de_callH H_L_due hg (hr.mono (by decide)) (by rfl) (da_cons (de_pv (pv 8)) (da_cons (de_ix id_ix (de_pv (pv 1)) (de_int)) (da_cons (de_pv (pv 9)) (da_cons (de_cmp (od_eq hr.units) (de_op od_mod (de_callTy cd_int (by rfl) T.m_int (by decide +kernel) (da_cons (de_pv (pv 7)) (da_nil))) (de_int)) (de_int) (nomark _)) (da_cons (de_callH H_L_quotients hg (hr.mono (by decide)) (by rfl) (da_cons (de_pv (pv 8)) (da_cons (de_pv (pv 6)) (da_nil)))) (da_nil))))))))) (dss_nil)) (dss_one (ds_if (dt_cmp (od_ne hr.units) (de_callB (cd_repr hg hr.units) (by rfl) T.m_repr (by decide +kernel) (da_cons (de_callH H_fast_shortest hg (hr.mono (by decide)) (by rfl) (da_cons (de_pv (pv 0)) (da_cons (de_pv (pv 9)) (da_cons (de_pv (pv 1)) (da_cons (de_pv (pv 7)) (da_nil)))))) (da_nil))) (de_callB (cd_repr hg hr.units) (by rfl) T.m_repr (by decide +kernel) (da_cons (de_pv (pv 10)) (da_nil))) (nomark _)) (dss_one (ds_ret (de_bl))) (dss_nil))))))))) (dss_one (ds_ret (de_bl)))))
theorem h_L_right (T : Tx K mg) (H_L_due : Has P w K mg base 4 "_law_due" ["_law_m", "_law_e", "_law_way", "_law_is_even", "_law_quotients_here"] F_L_due) (H_L_fast : Has P w K mg base 1 "_law_fast" ["_law_form_here", "_law_exponent"] F_L_fast) (H_L_quotients : Has P w K mg base 1 "_law_quotients" ["_law_m", "_law_value"] F_L_quotients) (H_L_top : Has P w K mg base 2 "_law_top" ["_law_row_here"] F_L_top) (H_count_of : Has P w K mg base 1 "count_of" ["form"] F_count_of) (H_fast_shortest : Has P w K mg base 6 "fast_shortest" ["form", "way", "row", "code"] F_fast_shortest) : Has P w K mg base 7 "_law_right" ["_law_form_here", "_law_row_here"] F_L_right :=
  okH T.f_L_right sc_L_right cnt_L_right (fun f cdv A out s H E hg hr => d_L_right T H_L_due H_L_fast H_L_quotients H_L_top H_count_of H_fast_shortest hg hr) ok_L_right
theorem d_L_great_right (T : Tx K mg) (H_L_cut : Has P w K mg base 1 "_law_cut" ["_law_num", "_law_den", "_law_bits"] F_L_cut) (H_L_draw : Has P w K mg base 1 "_law_draw" ["_law_deck_here", "_law_many"] F_L_draw) (H_L_due : Has P w K mg base 4 "_law_due" ["_law_m", "_law_e", "_law_way", "_law_is_even", "_law_quotients_here"] F_L_due) (H_L_one : Has P w K mg base 2 "_law_one" ["_law_deck_here", "_law_items"] F_L_one) (H_L_quotients : Has P w K mg base 1 "_law_quotients" ["_law_m", "_law_value"] F_L_quotients) (H_L_row : Has P w K mg base 4 "_law_row" ["_law_deck_here", "_law_exponent"] F_L_row) (H_L_scale : Has P w K mg base 3 "_law_scale" ["_law_exponent"] F_L_scale) (H_L_top : Has P w K mg base 2 "_law_top" ["_law_row_here"] F_L_top) (H_fast_shortest : Has P w K mg base 6 "fast_shortest" ["form", "way", "row", "code"] F_fast_shortest) {f : Addr} {cdv : Value} {A : Around} {out : List Env} {s : Shared} {H : Hp} {E : XK} (hg : (bX P w K mg base N_L_great_right "_law_great_right" s_L_great_right f cdv A out s H E).A.guards = some []) (hr : Room 6 (bX P w K mg base N_L_great_right "_law_great_right" s_L_great_right f cdv A out s H E).A) :
    DSs (bX P w K mg base N_L_great_right "_law_great_right" s_L_great_right f cdv A out s H E) (defBody s_L_great_right) t_L_great_right :=
  dss_cons (ds_set (i := 1) sc_L_great_right.nd rfl (Or.inr rfl) (de_callH H_L_one hg (hr.mono (by decide)) (by rfl) (da_cons (de_pv (pv 0)) (da_cons (de_lst (da_cons (de_int) (da_cons (de_int) (da_cons (de_int) (da_cons (de_int) (da_nil)))))) (da_nil))))) (dss_cons (ds_set (i := 2) sc_L_great_right.nd rfl (Or.inl rfl) (de_callH H_L_one hg (hr.mono (by decide)) (by rfl) (da_cons (de_pv (pv 0)) (da_cons (de_lst (da_cons (de_int) (da_cons (de_un ud_neg (de_int)) (da_cons (de_op od_sub (de_callH H_L_draw hg (hr.mono (by decide)) (by rfl) (da_cons (de_pv (pv 0)) (da_cons (de_int) (da_nil)))) (de_int)) (da_nil))))) (da_nil))))) (dss_cons (ds_if (dt_cmp (od_eq hr.units) (de_callH H_L_draw hg (hr.mono (by decide)) (by rfl) (da_cons (de_pv (pv 0)) (da_cons (de_int) (da_nil)))) (de_int) (nomark _)) (dss_one (ds_set (i := 2) sc_L_great_right.nd rfl (Or.inl rfl) (de_op od_sub (de_callH H_L_draw hg (hr.mono (by decide)) (by rfl) (da_cons (de_pv (pv 0)) (da_cons (de_int) (da_nil)))) (de_int)))) (dss_nil)) (dss_cons (ds_par (i := 3) (j := 4) (da_cons (de_tup (da_cons (de_pv (pv 1)) (da_cons (de_callB (cd_max2 rfl) (by rfl) T.m_max (by decide +kernel) (da_cons (de_un ud_neg (de_int)) (da_cons (de_op od_sub (de_pv (pv 2)) (de_callH H_L_draw hg (hr.mono (by decide)) (by rfl) (da_cons (de_pv (pv 0)) (da_cons (de_int) (da_nil))))) (da_nil)))) (da_cons (de_pv (pv 2)) (da_nil))))) (da_cons (de_callH H_L_scale hg (hr.mono (by decide)) (by rfl) (da_cons (de_pv (pv 2)) (da_nil))) (da_nil))) (fun _ p => ps_par (by rfl) sc_L_great_right.nd rfl rfl (by decide) rfl rfl p (by rfl))) (dss_cons (ds_set (i := 5) sc_L_great_right.nd rfl (Or.inr rfl) (de_ifExp (dt_cmp (od_eq hr.units) (de_ix id_ix (de_pv (pv 3)) (de_int)) (de_pv (pv 2)) (nomark _)) (de_int) (de_op od_add (de_op od_shl (de_int) (de_op od_sub (de_pv (pv 1)) (de_int))) (de_int)))) (dss_cons (ds_set (i := 6) sc_L_great_right.nd rfl (Or.inl rfl) (de_op od_add (de_lst (da_cons (de_pv (pv 5)) (da_cons (de_op od_sub (de_op od_shl (de_int) (de_pv (pv 1))) (de_int)) (da_nil)))) (de_lc (own := [("_law_time", 14)]) (di_range1 (by rfl) T.m_range (da_cons (de_int) (da_nil)) (fun _ p => pi_range1 (by rfl) T.m_range p)) (cg_name (by decide)) lcYes (fun _ _ _ _ _ => de_op od_add (de_pv (pv 5)) (de_callH H_L_draw hg (hr.mono (by decide)) (by rfl) (da_cons (de_pv (pv 0)) (da_cons (de_op od_sub (de_op od_shl (de_int) (de_pv (pv 1))) (de_pv (pv 5))) (da_nil))))) (fun _ _ _ a b c => pe_lc (own := [("_law_time", 14)]) rfl sc_L_great_right.nd a (blkOk_by (N := N_L_great_right) (sc := defScope s_L_great_right) (by decide +kernel)) (fun _ _ _ _ _ => pg_name (i := 14) sc_L_great_right.nd rfl (Or.inl rfl)) b c)))) (dss_cons (ds_set (i := 7) sc_L_great_right.nd rfl (Or.inl rfl) (de_op od_add (de_tup (da_cons (de_pv (pv 2)) (da_nil))) (de_callH H_L_cut hg (hr.mono (by decide)) (by rfl) (da_cons (de_ix id_ix (de_pv (pv 4)) (de_int)) (da_cons (de_ix id_ix (de_pv (pv 4)) (de_int)) (da_cons (de_op od_add (de_pv (pv 1)) (de_callH H_L_draw hg (hr.mono (by decide)) (by rfl) (da_cons (de_pv (pv 0)) (da_cons (de_int) (da_nil))))) (da_nil))))))) (dss_cons (ds_for (di_tup (de_tup (da_cons (de_callH H_L_row hg (hr.mono (by decide)) (by rfl) (da_cons (de_pv (pv 0)) (da_cons (de_pv (pv 2)) (da_nil)))) (da_cons (de_pv (pv 7)) (da_nil))))) (dg_name (pg_name (i := 8) sc_L_great_right.nd rfl (Or.inl rfl))) (dss_one (ds_for (di_list (de_pv (pv 6))) (dg_name (pg_name (i := 9) sc_L_great_right.nd rfl (Or.inl rfl))) (dss_cons (ds_set (i := 10) sc_L_great_right.nd rfl (Or.inl rfl) (de_op od_add (de_op od_mul (de_op od_sub (de_pv (pv 2)) (de_ix id_ix (de_pv (pv 3)) (de_int))) (de_op od_shl (de_int) (de_op od_sub (de_pv (pv 1)) (de_int)))) (de_pv (pv 9)))) (dss_cons (ds_set (i := 11) sc_L_great_right.nd rfl (Or.inl rfl) (de_callH H_L_quotients hg (hr.mono (by decide)) (by rfl) (da_cons (de_pv (pv 9)) (da_cons (de_callH H_L_top hg (hr.mono (by decide)) (by rfl) (da_cons (de_pv (pv 8)) (da_nil))) (da_nil))))) (dss_one (ds_for (di_tup (de_tup (da_cons (de_str) (da_cons (de_str) (da_nil))))) (dg_name (pg_name (i := 12) sc_L_great_right.nd rfl (Or.inl rfl))) (dss_cons (ds_set (i := 13) sc_L_great_right.nd rfl (Or.inl rfl) (de_callH H_L_due hg (hr.mono (by decide)) (by rfl) (da_cons (de_pv (pv 9)) (da_cons (de_pv (pv 2)) (da_cons (de_pv (pv 12)) (da_cons (de_cmp (od_eq hr.units) (de_op od_mod (de_callTy cd_int (by rfl) T.m_int (by decide +kernel) (da_cons (de_pv (pv 10)) (da_nil))) (de_int)) (de_int) (nomark _)) (da_cons (de_pv (pv 11)) (da_nil)))))))) (dss_one (ds_if (dt_cmp (od_ne hr.units) (de_callB (cd_repr hg hr.units) (by rfl) T.m_repr (by decide +kernel) (da_cons (de_callH H_fast_shortest hg (hr.mono (by decide)) (by rfl) (da_cons (de_pv (pv 3)) (da_cons (de_pv (pv 12)) (da_cons (de_pv (pv 8)) (da_cons (de_pv (pv 10)) (da_nil)))))) (da_nil))) (de_callB (cd_repr hg hr.units) (by rfl) T.m_repr (by decide +kernel) (da_cons (de_pv (pv 13)) (da_nil))) (nomark _)) (dss_one (ds_ret (de_bl))) (dss_nil))))))))))) (dss_one (ds_ret (de_bl))))))))))
theorem h_L_great_right (T : Tx K mg) (H_L_cut : Has P w K mg base 1 "_law_cut" ["_law_num", "_law_den", "_law_bits"] F_L_cut) (H_L_draw : Has P w K mg base 1 "_law_draw" ["_law_deck_here", "_law_many"] F_L_draw) (H_L_due : Has P w K mg base 4 "_law_due" ["_law_m", "_law_e", "_law_way", "_law_is_even", "_law_quotients_here"] F_L_due) (H_L_one : Has P w K mg base 2 "_law_one" ["_law_deck_here", "_law_items"] F_L_one) (H_L_quotients : Has P w K mg base 1 "_law_quotients" ["_law_m", "_law_value"] F_L_quotients) (H_L_row : Has P w K mg base 4 "_law_row" ["_law_deck_here", "_law_exponent"] F_L_row) (H_L_scale : Has P w K mg base 3 "_law_scale" ["_law_exponent"] F_L_scale) (H_L_top : Has P w K mg base 2 "_law_top" ["_law_row_here"] F_L_top) (H_fast_shortest : Has P w K mg base 6 "fast_shortest" ["form", "way", "row", "code"] F_fast_shortest) : Has P w K mg base 7 "_law_great_right" ["_law_deck_here"] F_L_great_right :=
  okH T.f_L_great_right sc_L_great_right cnt_L_great_right (fun f cdv A out s H E hg hr => d_L_great_right T H_L_cut H_L_draw H_L_due H_L_one H_L_quotients H_L_row H_L_scale H_L_top H_fast_shortest hg hr) ok_L_great_right
theorem d_law (T : Tx K mg) (H_L_deck : Has P w K mg base 1 "_law_deck" ["_law_script"] F_L_deck) (H_L_draw : Has P w K mg base 1 "_law_draw" ["_law_deck_here", "_law_many"] F_L_draw) (H_L_form : Has P w K mg base 2 "_law_form" ["_law_deck_here"] F_L_form) (H_L_great_right : Has P w K mg base 7 "_law_great_right" ["_law_deck_here"] F_L_great_right) (H_L_right : Has P w K mg base 7 "_law_right" ["_law_form_here", "_law_row_here"] F_L_right) (H_L_row : Has P w K mg base 4 "_law_row" ["_law_deck_here", "_law_exponent"] F_L_row) {f : Addr} {cdv : Value} {A : Around} {out : List Env} {s : Shared} {H : Hp} {E : XK} (hg : (bX P w K mg base N_law "law" s_law f cdv A out s H E).A.guards = some []) (hr : Room 7 (bX P w K mg base N_law "law" s_law f cdv A out s H E).A) :
    DSs (bX P w K mg base N_law "law" s_law f cdv A out s H E) (defBody s_law) t_law :=
  dss_deck (i := 1) (s := 0) H_L_deck hg (hr.mono (by decide)) (dss_cons (ds_for (di_range1 (by rfl) T.m_range (da_cons (de_int) (da_nil)) (fun _ p => pi_range1 (by rfl) T.m_range p)) (dg_name (pg_name (i := 2) sc_law.nd rfl (Or.inl rfl))) (dss_cons (ds_set (i := 3) sc_law.nd rfl (Or.inl rfl) (de_callH H_L_form hg (hr.mono (by decide)) (by rfl) (da_cons (de_pv (pv 1)) (da_nil)))) (dss_cons (ds_if (dt_cmp od_gt (de_pv (pv 2)) (de_int) (nomark _)) (dss_one (ds_set (i := 3) sc_law.nd rfl (Or.inl rfl) (de_tup (da_cons (de_op od_add (de_int) (de_callH H_L_draw hg (hr.mono (by decide)) (by rfl) (da_cons (de_pv (pv 1)) (da_cons (de_int) (da_nil))))) (da_cons (de_ix id_ix (de_pv (pv 3)) (de_int)) (da_cons (de_ix id_ix (de_pv (pv 3)) (de_int)) (da_nil))))))) (dss_nil)) (dss_one (ds_for (di_range1 (by rfl) T.m_range (da_cons (de_int) (da_nil)) (fun _ p => pi_range1 (by rfl) T.m_range p)) (dg_name (pg_name (i := 4) sc_law.nd rfl (Or.inl rfl))) (dss_cons (ds_set (i := 5) sc_law.nd rfl (Or.inl rfl) (de_op od_add (de_op od_sub (de_ix id_ix (de_pv (pv 3)) (de_int)) (de_int)) (de_callH H_L_draw hg (hr.mono (by decide)) (by rfl) (da_cons (de_pv (pv 1)) (da_cons (de_op od_add (de_op od_sub (de_ix id_ix (de_pv (pv 3)) (de_int)) (de_ix id_ix (de_pv (pv 3)) (de_int))) (de_int)) (da_nil)))))) (dss_one (ds_if (dt_not (dt_val (de_callH H_L_right hg (hr.mono (by decide)) (by rfl) (da_cons (de_pv (pv 3)) (da_cons (de_callH H_L_row hg (hr.mono (by decide)) (by rfl) (da_cons (de_pv (pv 1)) (da_cons (de_pv (pv 5)) (da_nil)))) (da_nil)))))) (dss_one (ds_ret (de_bl))) (dss_nil))))))))) (dss_one (ds_ret (de_callH H_L_great_right hg (hr.mono (by decide)) (by rfl) (da_cons (de_pv (pv 1)) (da_nil)))))) (fun _ p => ps_set (i := 1) sc_law.nd rfl (Or.inl rfl) p) (fun f fd gm kp b F => pe_callG F hg (hr.mono (by decide)) (by rfl) gm kp b (pa_cons (pv 0) pa_nil))
theorem h_law (T : Tx K mg) (H_L_deck : Has P w K mg base 1 "_law_deck" ["_law_script"] F_L_deck) (H_L_draw : Has P w K mg base 1 "_law_draw" ["_law_deck_here", "_law_many"] F_L_draw) (H_L_form : Has P w K mg base 2 "_law_form" ["_law_deck_here"] F_L_form) (H_L_great_right : Has P w K mg base 7 "_law_great_right" ["_law_deck_here"] F_L_great_right) (H_L_right : Has P w K mg base 7 "_law_right" ["_law_form_here", "_law_row_here"] F_L_right) (H_L_row : Has P w K mg base 4 "_law_row" ["_law_deck_here", "_law_exponent"] F_L_row) : Has P w K mg base 8 "law" ["_law_script"] F_law :=
  okH T.f_law sc_law cnt_law (fun f cdv A out s H E hg hr => d_law T H_L_deck H_L_draw H_L_form H_L_great_right H_L_right H_L_row hg hr) ok_law
theorem all_law (T : Tx K mg) : Has P w K mg base 8 "law" ["_law_script"] F_law :=
  have H_is_whole := h_is_whole (P := P) (w := w) (base := base) T 
  have H_raised := h_raised (P := P) (w := w) (base := base) T 
  have H_shifted := h_shifted (P := P) (w := w) (base := base) T 
  have H_tens_below := h_tens_below (P := P) (w := w) (base := base) T 
  have H_log_of := h_log_of (P := P) (w := w) (base := base) T 
  have H_plain_decimal := h_plain_decimal (P := P) (w := w) (base := base) T 
  have H_count_of := h_count_of (P := P) (w := w) (base := base) T 
  have H_parts_at := h_parts_at (P := P) (w := w) (base := base) T 
  have H_rounded_by := h_rounded_by (P := P) (w := w) (base := base) T 
  have H_fast_span := h_fast_span (P := P) (w := w) (base := base) T 
  have H_L_deck := h_L_deck (P := P) (w := w) (base := base) T 
  have H_L_draw := h_L_draw (P := P) (w := w) (base := base) T 
  have H_L_ten := h_L_ten (P := P) (w := w) (base := base) T 
  have H_L_binary := h_L_binary (P := P) (w := w) (base := base) T 
  have H_L_cut := h_L_cut (P := P) (w := w) (base := base) T 
  have H_L_fast := h_L_fast (P := P) (w := w) (base := base) T 
  have H_L_quotients := h_L_quotients (P := P) (w := w) (base := base) T 
  have H_L_plain := h_L_plain (P := P) (w := w) (base := base) T 
  have H_is_between := h_is_between (P := P) (w := w) (base := base) T H_is_whole
  have H_fraction_of := h_fraction_of (P := P) (w := w) (base := base) T H_raised
  have H_exponent_at := h_exponent_at (P := P) (w := w) (base := base) T H_log_of
  have H_greatest_read := h_greatest_read (P := P) (w := w) (base := base) T H_count_of
  have H_place_of := h_place_of (P := P) (w := w) (base := base) T H_tens_below
  have H_top_of := h_top_of (P := P) (w := w) (base := base) T H_shifted
  have H_L_one := h_L_one (P := P) (w := w) (base := base) T H_L_draw
  have H_L_place := h_L_place (P := P) (w := w) (base := base) T H_L_binary
  have H_L_top := h_L_top (P := P) (w := w) (base := base) T H_L_binary
  have H_L_form := h_L_form (P := P) (w := w) (base := base) T H_L_draw
  have H_value_of := h_value_of (P := P) (w := w) (base := base) T H_count_of H_is_between H_parts_at
  have H_rough_position := h_rough_position (P := P) (w := w) (base := base) T H_exponent_at
  have H_scale_of := h_scale_of (P := P) (w := w) (base := base) T H_fraction_of H_place_of H_shifted
  have H_L_scale := h_L_scale (P := P) (w := w) (base := base) T H_L_binary H_L_place H_L_ten
  have H_read_fraction := h_read_fraction (P := P) (w := w) (base := base) T H_greatest_read H_rough_position H_rounded_by
  have H_fast_number := h_fast_number (P := P) (w := w) (base := base) T H_count_of H_fast_span H_value_of
  have H_nearest_by := h_nearest_by (P := P) (w := w) (base := base) T H_scale_of
  have H_L_row := h_L_row (P := P) (w := w) (base := base) T H_L_cut H_L_draw H_L_scale
  have H_L_due := h_L_due (P := P) (w := w) (base := base) T H_L_place H_L_plain H_L_scale
  have H_end_of := h_end_of (P := P) (w := w) (base := base) T H_read_fraction H_scale_of H_shifted
  have H_fast_shortest := h_fast_shortest (P := P) (w := w) (base := base) T H_end_of H_fast_number H_nearest_by H_place_of H_plain_decimal H_top_of
  have H_L_right := h_L_right (P := P) (w := w) (base := base) T H_L_due H_L_fast H_L_quotients H_L_top H_count_of H_fast_shortest
  have H_L_great_right := h_L_great_right (P := P) (w := w) (base := base) T H_L_cut H_L_draw H_L_due H_L_one H_L_quotients H_L_row H_L_scale H_L_top H_fast_shortest
  h_law T H_L_deck H_L_draw H_L_form H_L_great_right H_L_right H_L_row
end
theorem tx_mk {K : PySem.W.Frag} {h : Heap} {mg : Str → Option Value} {f1 f2 f3 f4 f5 f6 f7 f8 f9 f10 f11 f12 f13 f14 f15 f16 f17 f18 f19 f20 f21 f22 f23 f24 f25 f26 f27 f28 f29 f30 f31 f32 f33 f34 f35 f36 f37 f38 f39 f40 f41 f42 : Addr} {od1 an1 od2 an2 od3 an3 od4 an4 od5 an5 od6 an6 od7 an7 od8 an8 od9 an9 od10 an10 od11 an11 od12 an12 od13 an13 od14 an14 od15 an15 od16 an16 od17 an17 od18 an18 od19 an19 od20 an20 od21 an21 od22 an22 od23 an23 od24 an24 od25 an25 od26 an26 od27 an27 od28 an28 od29 an29 od30 an30 od31 an31 od32 an32 od33 an33 od34 an34 od35 an35 od36 an36 od37 an37 od38 an38 od39 an39 od40 an40 od41 an41 od42 an42 : Option Addr} {sl1 sl2 sl3 sl4 sl5 sl6 sl7 sl8 sl9 sl10 sl11 sl12 sl13 sl14 sl15 sl16 sl17 sl18 sl19 sl20 sl21 sl22 sl23 sl24 sl25 sl26 sl27 sl28 sl29 sl30 sl31 sl32 sl33 sl34 sl35 sl36 sl37 sl38 sl39 sl40 sl41 sl42 : Array (Option Value)} {oc1 kV1 dc1 pm1 cd1 ct1 oc2 kV2 dc2 pm2 cd2 ct2 oc3 kV3 dc3 pm3 cd3 ct3 oc4 kV4 dc4 pm4 cd4 ct4 oc5 kV5 dc5 pm5 cd5 ct5 oc6 kV6 dc6 pm6 cd6 ct6 oc7 kV7 dc7 pm7 cd7 ct7 oc8 kV8 dc8 pm8 cd8 ct8 oc9 kV9 dc9 pm9 cd9 ct9 oc10 kV10 dc10 pm10 cd10 ct10 oc11 kV11 dc11 pm11 cd11 ct11 oc12 kV12 dc12 pm12 cd12 ct12 oc13 kV13 dc13 pm13 cd13 ct13 oc14 kV14 dc14 pm14 cd14 ct14 oc15 kV15 dc15 pm15 cd15 ct15 oc16 kV16 dc16 pm16 cd16 ct16 oc17 kV17 dc17 pm17 cd17 ct17 oc18 kV18 dc18 pm18 cd18 ct18 oc19 kV19 dc19 pm19 cd19 ct19 oc20 kV20 dc20 pm20 cd20 ct20 oc21 kV21 dc21 pm21 cd21 ct21 oc22 kV22 dc22 pm22 cd22 ct22 oc23 kV23 dc23 pm23 cd23 ct23 oc24 kV24 dc24 pm24 cd24 ct24 oc25 kV25 dc25 pm25 cd25 ct25 oc26 kV26 dc26 pm26 cd26 ct26 oc27 kV27 dc27 pm27 cd27 ct27 oc28 kV28 dc28 pm28 cd28 ct28 oc29 kV29 dc29 pm29 cd29 ct29 oc30 kV30 dc30 pm30 cd30 ct30 oc31 kV31 dc31 pm31 cd31 ct31 oc32 kV32 dc32 pm32 cd32 ct32 oc33 kV33 dc33 pm33 cd33 ct33 oc34 kV34 dc34 pm34 cd34 ct34 oc35 kV35 dc35 pm35 cd35 ct35 oc36 kV36 dc36 pm36 cd36 ct36 oc37 kV37 dc37 pm37 cd37 ct37 oc38 kV38 dc38 pm38 cd38 ct38 oc39 kV39 dc39 pm39 cd39 ct39 oc40 kV40 dc40 pm40 cd40 ct40 oc41 kV41 dc41 pm41 cd41 ct41 oc42 kV42 dc42 pm42 cd42 ct42 : Value} (X : K.In h) (G : h.Ns mainGlobals mg)
    (a1 : PySem.W.nsIn K mainGlobals "is_whole" = some (some (.ref f1))) (l1 : K.lookup f1 = some ⟨oc1, od1, .func (PySem.W.fnOf "is_whole" "is_whole" (defArgs s_is_whole) (defBody s_is_whole) (defScope s_is_whole) .none kV1 dc1 pm1 an1 cd1 ct1), sl1⟩) (c1 : PySem.W.codeIn K cd1 "is_whole" = true) (k1 : PySem.W.keepIn K (.ref f1) = true)
    (a2 : PySem.W.nsIn K mainGlobals "raised" = some (some (.ref f2))) (l2 : K.lookup f2 = some ⟨oc2, od2, .func (PySem.W.fnOf "raised" "raised" (defArgs s_raised) (defBody s_raised) (defScope s_raised) .none kV2 dc2 pm2 an2 cd2 ct2), sl2⟩) (c2 : PySem.W.codeIn K cd2 "raised" = true) (k2 : PySem.W.keepIn K (.ref f2) = true)
    (a3 : PySem.W.nsIn K mainGlobals "shifted" = some (some (.ref f3))) (l3 : K.lookup f3 = some ⟨oc3, od3, .func (PySem.W.fnOf "shifted" "shifted" (defArgs s_shifted) (defBody s_shifted) (defScope s_shifted) .none kV3 dc3 pm3 an3 cd3 ct3), sl3⟩) (c3 : PySem.W.codeIn K cd3 "shifted" = true) (k3 : PySem.W.keepIn K (.ref f3) = true)
    (a4 : PySem.W.nsIn K mainGlobals "tens_below" = some (some (.ref f4))) (l4 : K.lookup f4 = some ⟨oc4, od4, .func (PySem.W.fnOf "tens_below" "tens_below" (defArgs s_tens_below) (defBody s_tens_below) (defScope s_tens_below) .none kV4 dc4 pm4 an4 cd4 ct4), sl4⟩) (c4 : PySem.W.codeIn K cd4 "tens_below" = true) (k4 : PySem.W.keepIn K (.ref f4) = true)
    (a5 : PySem.W.nsIn K mainGlobals "log_of" = some (some (.ref f5))) (l5 : K.lookup f5 = some ⟨oc5, od5, .func (PySem.W.fnOf "log_of" "log_of" (defArgs s_log_of) (defBody s_log_of) (defScope s_log_of) .none kV5 dc5 pm5 an5 cd5 ct5), sl5⟩) (c5 : PySem.W.codeIn K cd5 "log_of" = true) (k5 : PySem.W.keepIn K (.ref f5) = true)
    (a6 : PySem.W.nsIn K mainGlobals "plain_decimal" = some (some (.ref f6))) (l6 : K.lookup f6 = some ⟨oc6, od6, .func (PySem.W.fnOf "plain_decimal" "plain_decimal" (defArgs s_plain_decimal) (defBody s_plain_decimal) (defScope s_plain_decimal) .none kV6 dc6 pm6 an6 cd6 ct6), sl6⟩) (c6 : PySem.W.codeIn K cd6 "plain_decimal" = true) (k6 : PySem.W.keepIn K (.ref f6) = true)
    (a7 : PySem.W.nsIn K mainGlobals "count_of" = some (some (.ref f7))) (l7 : K.lookup f7 = some ⟨oc7, od7, .func (PySem.W.fnOf "count_of" "count_of" (defArgs s_count_of) (defBody s_count_of) (defScope s_count_of) .none kV7 dc7 pm7 an7 cd7 ct7), sl7⟩) (c7 : PySem.W.codeIn K cd7 "count_of" = true) (k7 : PySem.W.keepIn K (.ref f7) = true)
    (a8 : PySem.W.nsIn K mainGlobals "parts_at" = some (some (.ref f8))) (l8 : K.lookup f8 = some ⟨oc8, od8, .func (PySem.W.fnOf "parts_at" "parts_at" (defArgs s_parts_at) (defBody s_parts_at) (defScope s_parts_at) .none kV8 dc8 pm8 an8 cd8 ct8), sl8⟩) (c8 : PySem.W.codeIn K cd8 "parts_at" = true) (k8 : PySem.W.keepIn K (.ref f8) = true)
    (a9 : PySem.W.nsIn K mainGlobals "rounded_by" = some (some (.ref f9))) (l9 : K.lookup f9 = some ⟨oc9, od9, .func (PySem.W.fnOf "rounded_by" "rounded_by" (defArgs s_rounded_by) (defBody s_rounded_by) (defScope s_rounded_by) .none kV9 dc9 pm9 an9 cd9 ct9), sl9⟩) (c9 : PySem.W.codeIn K cd9 "rounded_by" = true) (k9 : PySem.W.keepIn K (.ref f9) = true)
    (a10 : PySem.W.nsIn K mainGlobals "fast_span" = some (some (.ref f10))) (l10 : K.lookup f10 = some ⟨oc10, od10, .func (PySem.W.fnOf "fast_span" "fast_span" (defArgs s_fast_span) (defBody s_fast_span) (defScope s_fast_span) .none kV10 dc10 pm10 an10 cd10 ct10), sl10⟩) (c10 : PySem.W.codeIn K cd10 "fast_span" = true) (k10 : PySem.W.keepIn K (.ref f10) = true)
    (a11 : PySem.W.nsIn K mainGlobals "_law_deck" = some (some (.ref f11))) (l11 : K.lookup f11 = some ⟨oc11, od11, .func (PySem.W.fnOf "_law_deck" "_law_deck" (defArgs s_L_deck) (defBody s_L_deck) (defScope s_L_deck) .none kV11 dc11 pm11 an11 cd11 ct11), sl11⟩) (c11 : PySem.W.codeIn K cd11 "_law_deck" = true) (k11 : PySem.W.keepIn K (.ref f11) = true)
    (a12 : PySem.W.nsIn K mainGlobals "_law_draw" = some (some (.ref f12))) (l12 : K.lookup f12 = some ⟨oc12, od12, .func (PySem.W.fnOf "_law_draw" "_law_draw" (defArgs s_L_draw) (defBody s_L_draw) (defScope s_L_draw) .none kV12 dc12 pm12 an12 cd12 ct12), sl12⟩) (c12 : PySem.W.codeIn K cd12 "_law_draw" = true) (k12 : PySem.W.keepIn K (.ref f12) = true)
    (a13 : PySem.W.nsIn K mainGlobals "_law_ten" = some (some (.ref f13))) (l13 : K.lookup f13 = some ⟨oc13, od13, .func (PySem.W.fnOf "_law_ten" "_law_ten" (defArgs s_L_ten) (defBody s_L_ten) (defScope s_L_ten) .none kV13 dc13 pm13 an13 cd13 ct13), sl13⟩) (c13 : PySem.W.codeIn K cd13 "_law_ten" = true) (k13 : PySem.W.keepIn K (.ref f13) = true)
    (a14 : PySem.W.nsIn K mainGlobals "_law_binary" = some (some (.ref f14))) (l14 : K.lookup f14 = some ⟨oc14, od14, .func (PySem.W.fnOf "_law_binary" "_law_binary" (defArgs s_L_binary) (defBody s_L_binary) (defScope s_L_binary) .none kV14 dc14 pm14 an14 cd14 ct14), sl14⟩) (c14 : PySem.W.codeIn K cd14 "_law_binary" = true) (k14 : PySem.W.keepIn K (.ref f14) = true)
    (a15 : PySem.W.nsIn K mainGlobals "_law_cut" = some (some (.ref f15))) (l15 : K.lookup f15 = some ⟨oc15, od15, .func (PySem.W.fnOf "_law_cut" "_law_cut" (defArgs s_L_cut) (defBody s_L_cut) (defScope s_L_cut) .none kV15 dc15 pm15 an15 cd15 ct15), sl15⟩) (c15 : PySem.W.codeIn K cd15 "_law_cut" = true) (k15 : PySem.W.keepIn K (.ref f15) = true)
    (a16 : PySem.W.nsIn K mainGlobals "_law_fast" = some (some (.ref f16))) (l16 : K.lookup f16 = some ⟨oc16, od16, .func (PySem.W.fnOf "_law_fast" "_law_fast" (defArgs s_L_fast) (defBody s_L_fast) (defScope s_L_fast) .none kV16 dc16 pm16 an16 cd16 ct16), sl16⟩) (c16 : PySem.W.codeIn K cd16 "_law_fast" = true) (k16 : PySem.W.keepIn K (.ref f16) = true)
    (a17 : PySem.W.nsIn K mainGlobals "_law_quotients" = some (some (.ref f17))) (l17 : K.lookup f17 = some ⟨oc17, od17, .func (PySem.W.fnOf "_law_quotients" "_law_quotients" (defArgs s_L_quotients) (defBody s_L_quotients) (defScope s_L_quotients) .none kV17 dc17 pm17 an17 cd17 ct17), sl17⟩) (c17 : PySem.W.codeIn K cd17 "_law_quotients" = true) (k17 : PySem.W.keepIn K (.ref f17) = true)
    (a18 : PySem.W.nsIn K mainGlobals "_law_plain" = some (some (.ref f18))) (l18 : K.lookup f18 = some ⟨oc18, od18, .func (PySem.W.fnOf "_law_plain" "_law_plain" (defArgs s_L_plain) (defBody s_L_plain) (defScope s_L_plain) .none kV18 dc18 pm18 an18 cd18 ct18), sl18⟩) (c18 : PySem.W.codeIn K cd18 "_law_plain" = true) (k18 : PySem.W.keepIn K (.ref f18) = true)
    (a19 : PySem.W.nsIn K mainGlobals "is_between" = some (some (.ref f19))) (l19 : K.lookup f19 = some ⟨oc19, od19, .func (PySem.W.fnOf "is_between" "is_between" (defArgs s_is_between) (defBody s_is_between) (defScope s_is_between) .none kV19 dc19 pm19 an19 cd19 ct19), sl19⟩) (c19 : PySem.W.codeIn K cd19 "is_between" = true) (k19 : PySem.W.keepIn K (.ref f19) = true)
    (a20 : PySem.W.nsIn K mainGlobals "fraction_of" = some (some (.ref f20))) (l20 : K.lookup f20 = some ⟨oc20, od20, .func (PySem.W.fnOf "fraction_of" "fraction_of" (defArgs s_fraction_of) (defBody s_fraction_of) (defScope s_fraction_of) .none kV20 dc20 pm20 an20 cd20 ct20), sl20⟩) (c20 : PySem.W.codeIn K cd20 "fraction_of" = true) (k20 : PySem.W.keepIn K (.ref f20) = true)
    (a21 : PySem.W.nsIn K mainGlobals "exponent_at" = some (some (.ref f21))) (l21 : K.lookup f21 = some ⟨oc21, od21, .func (PySem.W.fnOf "exponent_at" "exponent_at" (defArgs s_exponent_at) (defBody s_exponent_at) (defScope s_exponent_at) .none kV21 dc21 pm21 an21 cd21 ct21), sl21⟩) (c21 : PySem.W.codeIn K cd21 "exponent_at" = true) (k21 : PySem.W.keepIn K (.ref f21) = true)
    (a22 : PySem.W.nsIn K mainGlobals "greatest_read" = some (some (.ref f22))) (l22 : K.lookup f22 = some ⟨oc22, od22, .func (PySem.W.fnOf "greatest_read" "greatest_read" (defArgs s_greatest_read) (defBody s_greatest_read) (defScope s_greatest_read) .none kV22 dc22 pm22 an22 cd22 ct22), sl22⟩) (c22 : PySem.W.codeIn K cd22 "greatest_read" = true) (k22 : PySem.W.keepIn K (.ref f22) = true)
    (a23 : PySem.W.nsIn K mainGlobals "place_of" = some (some (.ref f23))) (l23 : K.lookup f23 = some ⟨oc23, od23, .func (PySem.W.fnOf "place_of" "place_of" (defArgs s_place_of) (defBody s_place_of) (defScope s_place_of) .none kV23 dc23 pm23 an23 cd23 ct23), sl23⟩) (c23 : PySem.W.codeIn K cd23 "place_of" = true) (k23 : PySem.W.keepIn K (.ref f23) = true)
    (a24 : PySem.W.nsIn K mainGlobals "top_of" = some (some (.ref f24))) (l24 : K.lookup f24 = some ⟨oc24, od24, .func (PySem.W.fnOf "top_of" "top_of" (defArgs s_top_of) (defBody s_top_of) (defScope s_top_of) .none kV24 dc24 pm24 an24 cd24 ct24), sl24⟩) (c24 : PySem.W.codeIn K cd24 "top_of" = true) (k24 : PySem.W.keepIn K (.ref f24) = true)
    (a25 : PySem.W.nsIn K mainGlobals "_law_one" = some (some (.ref f25))) (l25 : K.lookup f25 = some ⟨oc25, od25, .func (PySem.W.fnOf "_law_one" "_law_one" (defArgs s_L_one) (defBody s_L_one) (defScope s_L_one) .none kV25 dc25 pm25 an25 cd25 ct25), sl25⟩) (c25 : PySem.W.codeIn K cd25 "_law_one" = true) (k25 : PySem.W.keepIn K (.ref f25) = true)
    (a26 : PySem.W.nsIn K mainGlobals "_law_place" = some (some (.ref f26))) (l26 : K.lookup f26 = some ⟨oc26, od26, .func (PySem.W.fnOf "_law_place" "_law_place" (defArgs s_L_place) (defBody s_L_place) (defScope s_L_place) .none kV26 dc26 pm26 an26 cd26 ct26), sl26⟩) (c26 : PySem.W.codeIn K cd26 "_law_place" = true) (k26 : PySem.W.keepIn K (.ref f26) = true)
    (a27 : PySem.W.nsIn K mainGlobals "_law_top" = some (some (.ref f27))) (l27 : K.lookup f27 = some ⟨oc27, od27, .func (PySem.W.fnOf "_law_top" "_law_top" (defArgs s_L_top) (defBody s_L_top) (defScope s_L_top) .none kV27 dc27 pm27 an27 cd27 ct27), sl27⟩) (c27 : PySem.W.codeIn K cd27 "_law_top" = true) (k27 : PySem.W.keepIn K (.ref f27) = true)
    (a28 : PySem.W.nsIn K mainGlobals "_law_form" = some (some (.ref f28))) (l28 : K.lookup f28 = some ⟨oc28, od28, .func (PySem.W.fnOf "_law_form" "_law_form" (defArgs s_L_form) (defBody s_L_form) (defScope s_L_form) .none kV28 dc28 pm28 an28 cd28 ct28), sl28⟩) (c28 : PySem.W.codeIn K cd28 "_law_form" = true) (k28 : PySem.W.keepIn K (.ref f28) = true)
    (a29 : PySem.W.nsIn K mainGlobals "value_of" = some (some (.ref f29))) (l29 : K.lookup f29 = some ⟨oc29, od29, .func (PySem.W.fnOf "value_of" "value_of" (defArgs s_value_of) (defBody s_value_of) (defScope s_value_of) .none kV29 dc29 pm29 an29 cd29 ct29), sl29⟩) (c29 : PySem.W.codeIn K cd29 "value_of" = true) (k29 : PySem.W.keepIn K (.ref f29) = true)
    (a30 : PySem.W.nsIn K mainGlobals "rough_position" = some (some (.ref f30))) (l30 : K.lookup f30 = some ⟨oc30, od30, .func (PySem.W.fnOf "rough_position" "rough_position" (defArgs s_rough_position) (defBody s_rough_position) (defScope s_rough_position) .none kV30 dc30 pm30 an30 cd30 ct30), sl30⟩) (c30 : PySem.W.codeIn K cd30 "rough_position" = true) (k30 : PySem.W.keepIn K (.ref f30) = true)
    (a31 : PySem.W.nsIn K mainGlobals "scale_of" = some (some (.ref f31))) (l31 : K.lookup f31 = some ⟨oc31, od31, .func (PySem.W.fnOf "scale_of" "scale_of" (defArgs s_scale_of) (defBody s_scale_of) (defScope s_scale_of) .none kV31 dc31 pm31 an31 cd31 ct31), sl31⟩) (c31 : PySem.W.codeIn K cd31 "scale_of" = true) (k31 : PySem.W.keepIn K (.ref f31) = true)
    (a32 : PySem.W.nsIn K mainGlobals "_law_scale" = some (some (.ref f32))) (l32 : K.lookup f32 = some ⟨oc32, od32, .func (PySem.W.fnOf "_law_scale" "_law_scale" (defArgs s_L_scale) (defBody s_L_scale) (defScope s_L_scale) .none kV32 dc32 pm32 an32 cd32 ct32), sl32⟩) (c32 : PySem.W.codeIn K cd32 "_law_scale" = true) (k32 : PySem.W.keepIn K (.ref f32) = true)
    (a33 : PySem.W.nsIn K mainGlobals "read_fraction" = some (some (.ref f33))) (l33 : K.lookup f33 = some ⟨oc33, od33, .func (PySem.W.fnOf "read_fraction" "read_fraction" (defArgs s_read_fraction) (defBody s_read_fraction) (defScope s_read_fraction) .none kV33 dc33 pm33 an33 cd33 ct33), sl33⟩) (c33 : PySem.W.codeIn K cd33 "read_fraction" = true) (k33 : PySem.W.keepIn K (.ref f33) = true)
    (a34 : PySem.W.nsIn K mainGlobals "fast_number" = some (some (.ref f34))) (l34 : K.lookup f34 = some ⟨oc34, od34, .func (PySem.W.fnOf "fast_number" "fast_number" (defArgs s_fast_number) (defBody s_fast_number) (defScope s_fast_number) .none kV34 dc34 pm34 an34 cd34 ct34), sl34⟩) (c34 : PySem.W.codeIn K cd34 "fast_number" = true) (k34 : PySem.W.keepIn K (.ref f34) = true)
    (a35 : PySem.W.nsIn K mainGlobals "nearest_by" = some (some (.ref f35))) (l35 : K.lookup f35 = some ⟨oc35, od35, .func (PySem.W.fnOf "nearest_by" "nearest_by" (defArgs s_nearest_by) (defBody s_nearest_by) (defScope s_nearest_by) .none kV35 dc35 pm35 an35 cd35 ct35), sl35⟩) (c35 : PySem.W.codeIn K cd35 "nearest_by" = true) (k35 : PySem.W.keepIn K (.ref f35) = true)
    (a36 : PySem.W.nsIn K mainGlobals "_law_row" = some (some (.ref f36))) (l36 : K.lookup f36 = some ⟨oc36, od36, .func (PySem.W.fnOf "_law_row" "_law_row" (defArgs s_L_row) (defBody s_L_row) (defScope s_L_row) .none kV36 dc36 pm36 an36 cd36 ct36), sl36⟩) (c36 : PySem.W.codeIn K cd36 "_law_row" = true) (k36 : PySem.W.keepIn K (.ref f36) = true)
    (a37 : PySem.W.nsIn K mainGlobals "_law_due" = some (some (.ref f37))) (l37 : K.lookup f37 = some ⟨oc37, od37, .func (PySem.W.fnOf "_law_due" "_law_due" (defArgs s_L_due) (defBody s_L_due) (defScope s_L_due) .none kV37 dc37 pm37 an37 cd37 ct37), sl37⟩) (c37 : PySem.W.codeIn K cd37 "_law_due" = true) (k37 : PySem.W.keepIn K (.ref f37) = true)
    (a38 : PySem.W.nsIn K mainGlobals "end_of" = some (some (.ref f38))) (l38 : K.lookup f38 = some ⟨oc38, od38, .func (PySem.W.fnOf "end_of" "end_of" (defArgs s_end_of) (defBody s_end_of) (defScope s_end_of) .none kV38 dc38 pm38 an38 cd38 ct38), sl38⟩) (c38 : PySem.W.codeIn K cd38 "end_of" = true) (k38 : PySem.W.keepIn K (.ref f38) = true)
    (a39 : PySem.W.nsIn K mainGlobals "fast_shortest" = some (some (.ref f39))) (l39 : K.lookup f39 = some ⟨oc39, od39, .func (PySem.W.fnOf "fast_shortest" "fast_shortest" (defArgs s_fast_shortest) (defBody s_fast_shortest) (defScope s_fast_shortest) .none kV39 dc39 pm39 an39 cd39 ct39), sl39⟩) (c39 : PySem.W.codeIn K cd39 "fast_shortest" = true) (k39 : PySem.W.keepIn K (.ref f39) = true)
    (a40 : PySem.W.nsIn K mainGlobals "_law_right" = some (some (.ref f40))) (l40 : K.lookup f40 = some ⟨oc40, od40, .func (PySem.W.fnOf "_law_right" "_law_right" (defArgs s_L_right) (defBody s_L_right) (defScope s_L_right) .none kV40 dc40 pm40 an40 cd40 ct40), sl40⟩) (c40 : PySem.W.codeIn K cd40 "_law_right" = true) (k40 : PySem.W.keepIn K (.ref f40) = true)
    (a41 : PySem.W.nsIn K mainGlobals "_law_great_right" = some (some (.ref f41))) (l41 : K.lookup f41 = some ⟨oc41, od41, .func (PySem.W.fnOf "_law_great_right" "_law_great_right" (defArgs s_L_great_right) (defBody s_L_great_right) (defScope s_L_great_right) .none kV41 dc41 pm41 an41 cd41 ct41), sl41⟩) (c41 : PySem.W.codeIn K cd41 "_law_great_right" = true) (k41 : PySem.W.keepIn K (.ref f41) = true)
    (a42 : PySem.W.nsIn K mainGlobals "law" = some (some (.ref f42))) (l42 : K.lookup f42 = some ⟨oc42, od42, .func (PySem.W.fnOf "law" "law" (defArgs s_law) (defBody s_law) (defScope s_law) .none kV42 dc42 pm42 an42 cd42 ct42), sl42⟩) (c42 : PySem.W.codeIn K cd42 "law" = true) (k42 : PySem.W.keepIn K (.ref f42) = true)
    (z_abs : PySem.W.nsIn K mainGlobals "abs" = some none) (z_bool : PySem.W.nsIn K mainGlobals "bool" = some none) (z_int : PySem.W.nsIn K mainGlobals "int" = some none) (z_isinstance : PySem.W.nsIn K mainGlobals "isinstance" = some none) (z_len : PySem.W.nsIn K mainGlobals "len" = some none) (z_max : PySem.W.nsIn K mainGlobals "max" = some none) (z_min : PySem.W.nsIn K mainGlobals "min" = some none) (z_range : PySem.W.nsIn K mainGlobals "range" = some none) (z_repr : PySem.W.nsIn K mainGlobals "repr" = some none) (z_reversed : PySem.W.nsIn K mainGlobals "reversed" = some none)  {tk_LEAST_FAST : Tok} (v_LEAST_FAST : PySem.W.nsIn K mainGlobals "LEAST_FAST" = some (some (.int 11 tk_LEAST_FAST))) : Tx K mg where
  m_abs := PySem.W.mg_none_of X G z_abs
  m_bool := PySem.W.mg_none_of X G z_bool
  m_int := PySem.W.mg_none_of X G z_int
  m_isinstance := PySem.W.mg_none_of X G z_isinstance
  m_len := PySem.W.mg_none_of X G z_len
  m_max := PySem.W.mg_none_of X G z_max
  m_min := PySem.W.mg_none_of X G z_min
  m_range := PySem.W.mg_none_of X G z_range
  m_repr := PySem.W.mg_none_of X G z_repr
  m_reversed := PySem.W.mg_none_of X G z_reversed
  c_LEAST_FAST := ⟨_, PySem.W.mg_of X G v_LEAST_FAST⟩
  f_is_whole := ⟨f1, _, PySem.W.mg_of X G a1, fun_mk (st := s_is_whole) l1 c1 k1, fun us hl => match us, hl with | [_], _ => rfl⟩
  f_raised := ⟨f2, _, PySem.W.mg_of X G a2, fun_mk (st := s_raised) l2 c2 k2, fun us hl => match us, hl with | [_, _], _ => rfl⟩
  f_shifted := ⟨f3, _, PySem.W.mg_of X G a3, fun_mk (st := s_shifted) l3 c3 k3, fun us hl => match us, hl with | [_, _], _ => rfl⟩
  f_tens_below := ⟨f4, _, PySem.W.mg_of X G a4, fun_mk (st := s_tens_below) l4 c4 k4, fun us hl => match us, hl with | [_], _ => rfl⟩
  f_log_of := ⟨f5, _, PySem.W.mg_of X G a5, fun_mk (st := s_log_of) l5 c5 k5, fun us hl => match us, hl with | [_, _], _ => rfl⟩
  f_plain_decimal := ⟨f6, _, PySem.W.mg_of X G a6, fun_mk (st := s_plain_decimal) l6 c6 k6, fun us hl => match us, hl with | [_], _ => rfl⟩
  f_count_of := ⟨f7, _, PySem.W.mg_of X G a7, fun_mk (st := s_count_of) l7 c7 k7, fun us hl => match us, hl with | [_], _ => rfl⟩
  f_parts_at := ⟨f8, _, PySem.W.mg_of X G a8, fun_mk (st := s_parts_at) l8 c8 k8, fun us hl => match us, hl with | [_, _], _ => rfl⟩
  f_rounded_by := ⟨f9, _, PySem.W.mg_of X G a9, fun_mk (st := s_rounded_by) l9 c9 k9, fun us hl => match us, hl with | [_, _, _], _ => rfl⟩
  f_fast_span := ⟨f10, _, PySem.W.mg_of X G a10, fun_mk (st := s_fast_span) l10 c10 k10, fun us hl => match us, hl with | [_, _], _ => rfl⟩
  f_L_deck := ⟨f11, _, PySem.W.mg_of X G a11, fun_mk (st := s_L_deck) l11 c11 k11, fun us hl => match us, hl with | [_], _ => rfl⟩
  f_L_draw := ⟨f12, _, PySem.W.mg_of X G a12, fun_mk (st := s_L_draw) l12 c12 k12, fun us hl => match us, hl with | [_, _], _ => rfl⟩
  f_L_ten := ⟨f13, _, PySem.W.mg_of X G a13, fun_mk (st := s_L_ten) l13 c13 k13, fun us hl => match us, hl with | [_], _ => rfl⟩
  f_L_binary := ⟨f14, _, PySem.W.mg_of X G a14, fun_mk (st := s_L_binary) l14 c14 k14, fun us hl => match us, hl with | [_, _], _ => rfl⟩
  f_L_cut := ⟨f15, _, PySem.W.mg_of X G a15, fun_mk (st := s_L_cut) l15 c15 k15, fun us hl => match us, hl with | [_, _, _], _ => rfl⟩
  f_L_fast := ⟨f16, _, PySem.W.mg_of X G a16, fun_mk (st := s_L_fast) l16 c16 k16, fun us hl => match us, hl with | [_, _], _ => rfl⟩
  f_L_quotients := ⟨f17, _, PySem.W.mg_of X G a17, fun_mk (st := s_L_quotients) l17 c17 k17, fun us hl => match us, hl with | [_, _], _ => rfl⟩
  f_L_plain := ⟨f18, _, PySem.W.mg_of X G a18, fun_mk (st := s_L_plain) l18 c18 k18, fun us hl => match us, hl with | [_, _], _ => rfl⟩
  f_is_between := ⟨f19, _, PySem.W.mg_of X G a19, fun_mk (st := s_is_between) l19 c19 k19, fun us hl => match us, hl with | [_, _, _], _ => rfl⟩
  f_fraction_of := ⟨f20, _, PySem.W.mg_of X G a20, fun_mk (st := s_fraction_of) l20 c20 k20, fun us hl => match us, hl with | [_], _ => rfl⟩
  f_exponent_at := ⟨f21, _, PySem.W.mg_of X G a21, fun_mk (st := s_exponent_at) l21 c21 k21, fun us hl => match us, hl with | [_, _, _], _ => rfl⟩
  f_greatest_read := ⟨f22, _, PySem.W.mg_of X G a22, fun_mk (st := s_greatest_read) l22 c22 k22, fun us hl => match us, hl with | [_, _], _ => rfl⟩
  f_place_of := ⟨f23, _, PySem.W.mg_of X G a23, fun_mk (st := s_place_of) l23 c23 k23, fun us hl => match us, hl with | [_], _ => rfl⟩
  f_top_of := ⟨f24, _, PySem.W.mg_of X G a24, fun_mk (st := s_top_of) l24 c24 k24, fun us hl => match us, hl with | [_], _ => rfl⟩
  f_L_one := ⟨f25, _, PySem.W.mg_of X G a25, fun_mk (st := s_L_one) l25 c25 k25, fun us hl => match us, hl with | [_, _], _ => rfl⟩
  f_L_place := ⟨f26, _, PySem.W.mg_of X G a26, fun_mk (st := s_L_place) l26 c26 k26, fun us hl => match us, hl with | [_], _ => rfl⟩
  f_L_top := ⟨f27, _, PySem.W.mg_of X G a27, fun_mk (st := s_L_top) l27 c27 k27, fun us hl => match us, hl with | [_], _ => rfl⟩
  f_L_form := ⟨f28, _, PySem.W.mg_of X G a28, fun_mk (st := s_L_form) l28 c28 k28, fun us hl => match us, hl with | [_], _ => rfl⟩
  f_value_of := ⟨f29, _, PySem.W.mg_of X G a29, fun_mk (st := s_value_of) l29 c29 k29, fun us hl => match us, hl with | [_, _], _ => rfl⟩
  f_rough_position := ⟨f30, _, PySem.W.mg_of X G a30, fun_mk (st := s_rough_position) l30 c30 k30, fun us hl => match us, hl with | [_, _, _], _ => rfl⟩
  f_scale_of := ⟨f31, _, PySem.W.mg_of X G a31, fun_mk (st := s_scale_of) l31 c31 k31, fun us hl => match us, hl with | [_], _ => rfl⟩
  f_L_scale := ⟨f32, _, PySem.W.mg_of X G a32, fun_mk (st := s_L_scale) l32 c32 k32, fun us hl => match us, hl with | [_], _ => rfl⟩
  f_read_fraction := ⟨f33, _, PySem.W.mg_of X G a33, fun_mk (st := s_read_fraction) l33 c33 k33, fun us hl => match us, hl with | [_, _, _, _], _ => rfl⟩
  f_fast_number := ⟨f34, _, PySem.W.mg_of X G a34, fun_mk (st := s_fast_number) l34 c34 k34, fun us hl => match us, hl with | [_, _, _], _ => rfl⟩
  f_nearest_by := ⟨f35, _, PySem.W.mg_of X G a35, fun_mk (st := s_nearest_by) l35 c35 k35, fun us hl => match us, hl with | [_, _, _], _ => rfl⟩
  f_L_row := ⟨f36, _, PySem.W.mg_of X G a36, fun_mk (st := s_L_row) l36 c36 k36, fun us hl => match us, hl with | [_, _], _ => rfl⟩
  f_L_due := ⟨f37, _, PySem.W.mg_of X G a37, fun_mk (st := s_L_due) l37 c37 k37, fun us hl => match us, hl with | [_, _, _, _, _], _ => rfl⟩
  f_end_of := ⟨f38, _, PySem.W.mg_of X G a38, fun_mk (st := s_end_of) l38 c38 k38, fun us hl => match us, hl with | [_, _, _, _, _], _ => rfl⟩
  f_fast_shortest := ⟨f39, _, PySem.W.mg_of X G a39, fun_mk (st := s_fast_shortest) l39 c39 k39, fun us hl => match us, hl with | [_, _, _, _], _ => rfl⟩
  f_L_right := ⟨f40, _, PySem.W.mg_of X G a40, fun_mk (st := s_L_right) l40 c40 k40, fun us hl => match us, hl with | [_, _], _ => rfl⟩
  f_L_great_right := ⟨f41, _, PySem.W.mg_of X G a41, fun_mk (st := s_L_great_right) l41 c41 k41, fun us hl => match us, hl with | [_], _ => rfl⟩
  f_law := ⟨f42, _, PySem.W.mg_of X G a42, fun_mk (st := s_law) l42 c42 k42, fun us hl => match us, hl with | [_], _ => rfl⟩
end Law
open PySem PySem.W PyProof.Rows
set_option maxHeartbeats 0 in
theorem PySem.Challenge.cw_numbertexts_k78_fast_decimals_by_any_row_holds : PySem.Challenge.rw_numbertexts_k78_fast_decimals_by_any_row.Holds := by
  w_on; o_law; k_head; (case hw => w_witness2)
  k_fill
  refine DL.walk_T (l := PySem.Challenge.rw_numbertexts_k78_fast_decimals_by_any_row) (n := 63) (k := 8) (x := "_law_script") (F := Law.F_law) (TX := Law.Tx) rfl (by decide) rfl ⟨rfl, by decide, by decide⟩ (fun w h Y => PySem.W.kIn_of Y) (fun w K mg base T => Law.all_law T) (fun K mg T => ⟨_, T.f_law⟩) ?F Law.law_true
  case F =>
    intro w mg h KX G
    refine' Law.tx_mk KX G ?a1 ?l1 ?c1 ?k1 ?a2 ?l2 ?c2 ?k2 ?a3 ?l3 ?c3 ?k3 ?a4 ?l4 ?c4 ?k4 ?a5 ?l5 ?c5 ?k5 ?a6 ?l6 ?c6 ?k6 ?a7 ?l7 ?c7 ?k7 ?a8 ?l8 ?c8 ?k8 ?a9 ?l9 ?c9 ?k9 ?a10 ?l10 ?c10 ?k10 ?a11 ?l11 ?c11 ?k11 ?a12 ?l12 ?c12 ?k12 ?a13 ?l13 ?c13 ?k13 ?a14 ?l14 ?c14 ?k14 ?a15 ?l15 ?c15 ?k15 ?a16 ?l16 ?c16 ?k16 ?a17 ?l17 ?c17 ?k17 ?a18 ?l18 ?c18 ?k18 ?a19 ?l19 ?c19 ?k19 ?a20 ?l20 ?c20 ?k20 ?a21 ?l21 ?c21 ?k21 ?a22 ?l22 ?c22 ?k22 ?a23 ?l23 ?c23 ?k23 ?a24 ?l24 ?c24 ?k24 ?a25 ?l25 ?c25 ?k25 ?a26 ?l26 ?c26 ?k26 ?a27 ?l27 ?c27 ?k27 ?a28 ?l28 ?c28 ?k28 ?a29 ?l29 ?c29 ?k29 ?a30 ?l30 ?c30 ?k30 ?a31 ?l31 ?c31 ?k31 ?a32 ?l32 ?c32 ?k32 ?a33 ?l33 ?c33 ?k33 ?a34 ?l34 ?c34 ?k34 ?a35 ?l35 ?c35 ?k35 ?a36 ?l36 ?c36 ?k36 ?a37 ?l37 ?c37 ?k37 ?a38 ?l38 ?c38 ?k38 ?a39 ?l39 ?c39 ?k39 ?a40 ?l40 ?c40 ?k40 ?a41 ?l41 ?c41 ?k41 ?a42 ?l42 ?c42 ?k42 ?z_abs ?z_bool ?z_int ?z_isinstance ?z_len ?z_max ?z_min ?z_range ?z_repr ?z_reversed  ?v_LEAST_FAST
    (case a1 => k_is); (case l1 => k_is); (case c1 => k_is); (case k1 => k_is); (case a2 => k_is); (case l2 => k_is); (case c2 => k_is); (case k2 => k_is); (case a3 => k_is); (case l3 => k_is); (case c3 => k_is); (case k3 => k_is); (case a4 => k_is); (case l4 => k_is); (case c4 => k_is); (case k4 => k_is); (case a5 => k_is); (case l5 => k_is); (case c5 => k_is); (case k5 => k_is); (case a6 => k_is); (case l6 => k_is); (case c6 => k_is); (case k6 => k_is); (case a7 => k_is); (case l7 => k_is); (case c7 => k_is); (case k7 => k_is); (case a8 => k_is); (case l8 => k_is); (case c8 => k_is); (case k8 => k_is); (case a9 => k_is); (case l9 => k_is); (case c9 => k_is); (case k9 => k_is); (case a10 => k_is); (case l10 => k_is); (case c10 => k_is); (case k10 => k_is); (case a11 => k_is); (case l11 => k_is); (case c11 => k_is); (case k11 => k_is); (case a12 => k_is); (case l12 => k_is); (case c12 => k_is); (case k12 => k_is); (case a13 => k_is); (case l13 => k_is); (case c13 => k_is); (case k13 => k_is); (case a14 => k_is); (case l14 => k_is); (case c14 => k_is); (case k14 => k_is); (case a15 => k_is); (case l15 => k_is); (case c15 => k_is); (case k15 => k_is); (case a16 => k_is); (case l16 => k_is); (case c16 => k_is); (case k16 => k_is); (case a17 => k_is); (case l17 => k_is); (case c17 => k_is); (case k17 => k_is); (case a18 => k_is); (case l18 => k_is); (case c18 => k_is); (case k18 => k_is); (case a19 => k_is); (case l19 => k_is); (case c19 => k_is); (case k19 => k_is); (case a20 => k_is); (case l20 => k_is); (case c20 => k_is); (case k20 => k_is); (case a21 => k_is); (case l21 => k_is); (case c21 => k_is); (case k21 => k_is); (case a22 => k_is); (case l22 => k_is); (case c22 => k_is); (case k22 => k_is); (case a23 => k_is); (case l23 => k_is); (case c23 => k_is); (case k23 => k_is); (case a24 => k_is); (case l24 => k_is); (case c24 => k_is); (case k24 => k_is); (case a25 => k_is); (case l25 => k_is); (case c25 => k_is); (case k25 => k_is); (case a26 => k_is); (case l26 => k_is); (case c26 => k_is); (case k26 => k_is); (case a27 => k_is); (case l27 => k_is); (case c27 => k_is); (case k27 => k_is); (case a28 => k_is); (case l28 => k_is); (case c28 => k_is); (case k28 => k_is); (case a29 => k_is); (case l29 => k_is); (case c29 => k_is); (case k29 => k_is); (case a30 => k_is); (case l30 => k_is); (case c30 => k_is); (case k30 => k_is); (case a31 => k_is); (case l31 => k_is); (case c31 => k_is); (case k31 => k_is); (case a32 => k_is); (case l32 => k_is); (case c32 => k_is); (case k32 => k_is); (case a33 => k_is); (case l33 => k_is); (case c33 => k_is); (case k33 => k_is); (case a34 => k_is); (case l34 => k_is); (case c34 => k_is); (case k34 => k_is); (case a35 => k_is); (case l35 => k_is); (case c35 => k_is); (case k35 => k_is); (case a36 => k_is); (case l36 => k_is); (case c36 => k_is); (case k36 => k_is); (case a37 => k_is); (case l37 => k_is); (case c37 => k_is); (case k37 => k_is); (case a38 => k_is); (case l38 => k_is); (case c38 => k_is); (case k38 => k_is); (case a39 => k_is); (case l39 => k_is); (case c39 => k_is); (case k39 => k_is); (case a40 => k_is); (case l40 => k_is); (case c40 => k_is); (case k40 => k_is); (case a41 => k_is); (case l41 => k_is); (case c41 => k_is); (case k41 => k_is); (case a42 => k_is); (case l42 => k_is); (case c42 => k_is); (case k42 => k_is); (case z_abs => k_is); (case z_bool => k_is); (case z_int => k_is); (case z_isinstance => k_is); (case z_len => k_is); (case z_max => k_is); (case z_min => k_is); (case z_range => k_is); (case z_repr => k_is); (case z_reversed => k_is); (case v_LEAST_FAST => k_is)
