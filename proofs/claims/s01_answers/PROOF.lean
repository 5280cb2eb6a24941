import PyProof.Rows.All
import Wide.All
import OpenK.AllK
import Wide.FinOn
import PyProof.EqAt
import PyProof.EqKinds
import PyProof.TupleCall
import KE.BitLaws
import Open.SpecLaws
import KE.OsHead
import KE.OsGo
import VafmtaSpec
import PyVafmta
import PySem.Challenge.RW_cutanew_s01_answers
set_option Elab.async false
set_option linter.all false
section
namespace MC
open Vafmta
theorem takeWhile_length_le {α:Type} (p:α->Bool) (l:List α):(l.takeWhile p).length ≤ l.length:=by
  induction l with
  | nil=>simp
  | cons a l ih =>
    rw [List.takeWhile_cons]
    split
    · simp; exact ih
    · simp
theorem closing_bound : ∀ (m:Nat) (r:Bytes) (n:Nat),r.length ≤ m->closing r=some n->1 ≤ n∧n ≤ r.length
  | 0,r,n,hm,h=>by
    cases r with
    | nil=>simp [closing] at h
    | cons c r=>simp at hm
  | m + 1,[],n,hm,h=>by simp [closing] at h
  | m + 1,c :: r,n,hm,h=>by
    rw [closing.eq_def] at h
    simp only at h
    split at h
    · cases h
    · split at h
      · cases h; simp
      · split at h
        · cases r with
          | nil=>simp at h
          | cons d s =>
            simp only at h
            split at h
            · cases h
            · cases e:closing s with
              | none=>rw [e] at h; cases h
              | some k =>
                rw [e] at h
                have hk:=closing_bound m s k (by simp at hm; omega) e
                simp at h
                simp
                omega
        · cases e:closing r with
          | none=>rw [e] at h; cases h
          | some k =>
            rw [e] at h
            have hk:=closing_bound m r k (by simp at hm; omega) e
            simp at h
            simp
            omega
theorem drop_takeWhile {α:Type} (p:α->Bool) (l:List α):l.drop (l.takeWhile p).length=l.dropWhile p:=by
  induction l with
  | nil=>rfl
  | cons a l ih =>
    rw [List.takeWhile_cons,List.dropWhile_cons]
    split
    · simpa using ih
    · rfl
theorem numberLength_bound (r:Bytes):1 ≤ numberLength r∧numberLength r ≤ r.length + 1:=by
  unfold numberLength
  have h1:=takeWhile_length_le isDigit r
  simp only
  generalize hn:(r.takeWhile isDigit).length=n at *
  split
  · rename_i p d s hd
    have hl:(r.drop n).length=s.length + 2:=by rw [hd]; simp
    rw [List.length_drop] at hl
    have h2:=takeWhile_length_le isDigit s
    split <;> omega
  · omega
theorem signLength_bound (c:UInt8) (r:Bytes):signLength c r ≤ r.length + 1:=by
  unfold signLength
  cases r with
  | nil=>simp only; split <;> simp
  | cons d s =>
    simp only
    split
    · simp
    · split <;> simp
theorem firstOf_bound (c:UInt8) (r:Bytes):1 ≤ (firstOf c r).2∧(firstOf c r).2 ≤ (c :: r).length:=by
  unfold firstOf
  simp only [List.length_cons]
  split
  · simp
  · split
    · simp
    · split
      · have:=takeWhile_length_le (fun b=>b != LINE) r
        simp only; omega
      · split
        · have:=takeWhile_length_le isWordByte r
          simp only; omega
        · split
          · have:=numberLength_bound r
            simp only; omega
          · split
            · split
              · rename_i n h
                have:=closing_bound _ r n (Nat.le_refl _) h
                simp only; omega
              · simp
            · split
              · simp
              · have:=signLength_bound c r
                simp only; omega
theorem cutFrom_fuel : ∀ (f g:Nat) (t:Bytes),t.length ≤ f->t.length ≤ g->cutFrom f t=cutFrom g t
  | 0,0,t,_,_=>rfl
  | 0,g + 1,[],_,_=>rfl
  | 0,g + 1,c :: r,h,_=>by simp at h
  | f + 1,0,[],_,_=>rfl
  | f + 1,0,c :: r,_,h=>by simp at h
  | f + 1,g + 1,[],_,_=>rfl
  | f + 1,g + 1,c :: r,hf,hg=>by
    rw [cutFrom,cutFrom]
    have hb:=firstOf_bound c r
    have hl:((c :: r).drop (firstOf c r).2).length ≤ r.length:=by
      rw [List.length_drop]; simp at hb ⊢; omega
    rw [cutFrom_fuel f g _ (by simp at hf; omega) (by simp at hg; omega)]
theorem cut_nil : cut []=[]:=rfl
def head (c:UInt8) (r:Bytes):Piece:=⟨(firstOf c r).1,(c :: r).take (firstOf c r).2⟩
def rest (c:UInt8) (r:Bytes):Bytes:=(c :: r).drop (firstOf c r).2
theorem rest_lt (c:UInt8) (r:Bytes):(rest c r).length < (c :: r).length:=by
  have hb:=firstOf_bound c r
  unfold rest
  rw [List.length_drop]
  simp at hb ⊢; omega
theorem cut_cons (c:UInt8) (r:Bytes):cut (c :: r)=head c r :: cut (rest c r):=by
  unfold cut
  show cutFrom (r.length + 1) (c :: r)=_
  rw [cutFrom]
  have:=rest_lt c r
  rw [cutFrom_fuel r.length (rest c r).length _ (by unfold rest at this; simp at this ⊢; omega) (by unfold rest; exact Nat.le_refl _)]
  rfl
theorem head_len (c:UInt8) (r:Bytes):(head c r).text.length=(firstOf c r).2:=by
  have hb:=firstOf_bound c r
  unfold head
  simp only [List.length_take]
  omega
theorem head_rest (c:UInt8) (r:Bytes):(head c r).text ++ rest c r=c :: r:=List.take_append_drop _ _
theorem bytes_cut : ∀ (m:Nat) (t:Bytes),t.length ≤ m->bytesOf (cut t)=t
  | 0,[],_=>rfl
  | 0,c :: r,h=>by simp at h
  | m + 1,[],_=>rfl
  | m + 1,c :: r,h=>by
    rw [cut_cons]
    have hl:=rest_lt c r
    have ih:=bytes_cut m (rest c r) (by simp at h hl; omega)
    unfold bytesOf at ih ⊢
    rw [List.flatMap_cons,ih]
    exact head_rest c r
def St1 (x:Bytes) (c:UInt8) (r:Bytes):Prop:=firstOf c (r ++ x)=firstOf c r
theorem head_st {x:Bytes}{c:UInt8}{r:Bytes} (h:St1 x c r):head c (r ++ x)=head c r∧rest c (r ++ x)=rest c r ++ x:=by
  have hb:=firstOf_bound c r
  unfold head rest
  have h':firstOf c (r ++ x)=firstOf c r:=h
  rw [h']
  rw [← List.cons_append,List.take_append_of_le_length hb.2,List.drop_append_of_le_length hb.2]
  exact ⟨rfl,rfl⟩
def Stays (x t:Bytes):Prop:=cut (t ++ x)=cut t ++ cut x
theorem stays_nil (x:Bytes):Stays x []:=rfl
theorem stays_cons {x:Bytes}{c:UInt8}{r:Bytes}:Stays x (c :: r) ↔ St1 x c r∧Stays x (rest c r):=by
  constructor
  · intro h
    unfold Stays at h
    rw [List.cons_append,cut_cons,cut_cons,List.cons_append] at h
    have h1:head c (r ++ x)=head c r:=(List.cons.inj h).1
    have e2:(firstOf c (r ++ x)).2=(firstOf c r).2:=by rw [← head_len,← head_len,h1]
    have e1:(firstOf c (r ++ x)).1=(firstOf c r).1:=congrArg Piece.kind h1
    have s1:St1 x c r:=Prod.ext e1 e2
    refine ⟨s1,?_⟩
    have h2:=(List.cons.inj h).2
    rw [(head_st s1).2] at h2
    exact h2
  · rintro ⟨s1,h2⟩
    unfold Stays at h2 ⊢
    rw [List.cons_append,cut_cons,cut_cons,(head_st s1).1,(head_st s1).2,h2,List.cons_append]
end MC
end
section
namespace MC
open Vafmta
theorem takeWhile_append_of_lt {α:Type}{p:α->Bool}:∀ {l:List α} (x:List α),(l.takeWhile p).length < l.length->(l ++ x).takeWhile p=l.takeWhile p
  | [],x,h=>by simp at h
  | a :: l,x,h=>by
    rw [List.cons_append,List.takeWhile_cons,List.takeWhile_cons]
    rw [List.takeWhile_cons] at h
    split
    · rename_i ha
      rw [if_pos ha] at h
      rw [takeWhile_append_of_lt x (by simpa using h)]
    · rfl
theorem takeWhile_take {α:Type}{p:α->Bool}:∀ (l:List α),(l.take (l.takeWhile p).length).takeWhile p=l.takeWhile p
  | []=>rfl
  | a :: l=>by
    rw [List.takeWhile_cons]
    split
    · rename_i ha
      simp only [List.length_cons,List.take_succ_cons,List.takeWhile_cons,if_pos ha,takeWhile_take l]
    · rfl
theorem take_takeWhile_len {α:Type}{p:α->Bool}:∀ (l:List α),l.take (l.takeWhile p).length=l.takeWhile p
  | []=>rfl
  | a :: l=>by
    rw [List.takeWhile_cons]
    split
    · simp only [List.length_cons,List.take_succ_cons,take_takeWhile_len l]
    · rfl
theorem closing_none_noquote : ∀ (m:Nat) (x:Bytes),x.length ≤ m->QUOTE ∉ x->closing x=none
  | 0,[],_,_=>rfl
  | 0,_ :: _,h,_=>by simp at h
  | m + 1,[],_,_=>rfl
  | m + 1,c :: r,hm,hq=>by
    rw [closing.eq_def]
    simp only
    have hc:¬ c=QUOTE:=fun e=>hq (by rw [e]; exact List.mem_cons_self)
    by_cases hl:c=LINE
    · rw [if_pos hl]
    · rw [if_neg hl,if_neg hc]
      by_cases hb:c=BACK
      · rw [if_pos hb]
        cases r with
        | nil=>rfl
        | cons d s =>
          simp only
          split
          · rfl
          · rw [closing_none_noquote m s (by simp at hm; omega) (fun e=>hq (List.mem_cons_of_mem _ (List.mem_cons_of_mem _ e)))]
            rfl
      · rw [if_neg hb,closing_none_noquote m r (by simp at hm; omega) (fun e=>hq (List.mem_cons_of_mem _ e))]
        rfl
theorem closing_none_app : ∀ (m:Nat) (r x:Bytes),r.length ≤ m->closing r=none->(QUOTE ∉ x ∨ LINE ∈ r)->closing (r ++ x)=none
  | m,[],x,_,_,hx=>by
    rcases hx with hx | hx
    · exact closing_none_noquote _ _ (Nat.le_refl _) hx
    · cases hx
  | 0,_ :: _,_,h,_,_=>by simp at h
  | m + 1,c :: r,x,hm,h,hx=>by
    rw [List.cons_append]
    rw [closing.eq_def] at h ⊢
    simp only at h ⊢
    by_cases hl:c=LINE
    · rw [if_pos hl]
    · rw [if_neg hl] at h ⊢
      by_cases hq:c=QUOTE
      · rw [if_pos hq] at h; cases h
      · rw [if_neg hq] at h ⊢
        by_cases hb:c=BACK
        · rw [if_pos hb] at h ⊢
          cases r with
          | nil =>
            rcases hx with hx | hx
            · rw [List.nil_append]
              cases x with
              | nil=>rfl
              | cons d s =>
                simp only
                split
                · rfl
                · rw [closing_none_noquote _ s (Nat.le_refl _) (fun e=>hx (List.mem_cons_of_mem _ e))]
                  rfl
            · exact absurd (List.mem_singleton.mp hx).symm hl
          | cons d s =>
            rw [List.cons_append]
            simp only at h ⊢
            by_cases hd:d=LINE
            · rw [if_pos hd]
            · rw [if_neg hd] at h ⊢
              have h':closing s=none:=by
                cases e:closing s with
                | none=>rfl
                | some k=>rw [e] at h; cases h
              rw [closing_none_app m s x (by simp at hm; omega) h' (hx.imp id fun e=>by
                rcases List.mem_cons.mp e with e | e
                · exact absurd e.symm hl
                · rcases List.mem_cons.mp e with e | e
                  · exact absurd e.symm hd
                  · exact e)]
              rfl
        · rw [if_neg hb] at h ⊢
          have h':closing r=none:=by
            cases e:closing r with
            | none=>rfl
            | some k=>rw [e] at h; cases h
          rw [closing_none_app m r x (by simp at hm; omega) h' (hx.imp id fun e=>by
            rcases List.mem_cons.mp e with e | e
            · exact absurd e.symm hl
            · exact e)]
          rfl
theorem closing_some_app : ∀ (m:Nat) (r x:Bytes) (n:Nat),r.length ≤ m->closing r=some n->closing (r ++ x)=some n
  | m,[],x,n,_,h=>by simp [closing] at h
  | 0,_ :: _,_,_,h,_=>by simp at h
  | m + 1,c :: r,x,n,hm,h=>by
    rw [List.cons_append]
    rw [closing.eq_def] at h ⊢
    simp only at h ⊢
    by_cases hl:c=LINE
    · rw [if_pos hl] at h; cases h
    · rw [if_neg hl] at h ⊢
      by_cases hq:c=QUOTE
      · rw [if_pos hq] at h ⊢; exact h
      · rw [if_neg hq] at h ⊢
        by_cases hb:c=BACK
        · rw [if_pos hb] at h ⊢
          cases r with
          | nil=>simp at h
          | cons d s =>
            rw [List.cons_append]
            simp only at h ⊢
            by_cases hd:d=LINE
            · rw [if_pos hd] at h; cases h
            · rw [if_neg hd] at h ⊢
              cases e:closing s with
              | none=>rw [e] at h; cases h
              | some k =>
                rw [closing_some_app m s x k (by simp at hm; omega) e]
                rw [e] at h
                exact h
        · rw [if_neg hb] at h ⊢
          cases e:closing r with
          | none=>rw [e] at h; cases h
          | some k =>
            rw [closing_some_app m r x k (by simp at hm; omega) e]
            rw [e] at h
            exact h
theorem closing_take : ∀ (m:Nat) (r:Bytes) (n:Nat),r.length ≤ m->closing r=some n->closing (r.take n)=some n
  | m,[],n,_,h=>by simp [closing] at h
  | 0,_ :: _,_,h,_=>by simp at h
  | m + 1,c :: r,n,hm,h=>by
    have hb:=closing_bound _ _ _ (Nat.le_refl _) h
    rw [closing.eq_def] at h
    simp only at h
    by_cases hl:c=LINE
    · rw [if_pos hl] at h; cases h
    · rw [if_neg hl] at h
      by_cases hq:c=QUOTE
      · rw [if_pos hq] at h
        cases h
        rw [List.take_succ_cons,closing.eq_def]
        simp only
        rw [if_neg hl,if_pos hq]
      · rw [if_neg hq] at h
        by_cases hbk:c=BACK
        · rw [if_pos hbk] at h
          cases r with
          | nil=>simp at h
          | cons d s =>
            simp only at h
            by_cases hd:d=LINE
            · rw [if_pos hd] at h; cases h
            · rw [if_neg hd] at h
              cases e:closing s with
              | none=>rw [e] at h; cases h
              | some k =>
                rw [e] at h
                have hn:n=k + 2:=(Option.some.inj h).symm
                subst hn
                rw [List.take_succ_cons,List.take_succ_cons,closing.eq_def]
                simp only
                rw [if_neg hl,if_neg hq,if_pos hbk,if_neg hd,closing_take m s k (by simp at hm; omega) e]
                rfl
        · rw [if_neg hbk] at h
          cases e:closing r with
          | none=>rw [e] at h; cases h
          | some k =>
            rw [e] at h
            have hn:n=k + 1:=(Option.some.inj h).symm
            subst hn
            rw [List.take_succ_cons,closing.eq_def]
            simp only
            rw [if_neg hl,if_neg hq,if_neg hbk,closing_take m r k (by simp at hm; omega) e]
            rfl
theorem closing_chain : ∀ (k:Nat) (m r x:Bytes),m.length ≤ k->LINE ∉ m->closing (m ++ QUOTE :: r)=none->closing (r ++ x)=none->closing ((m ++ QUOTE :: r) ++ x)=none
  | k,[],r,x,_,_,h,_=>by
    rw [List.nil_append,closing.eq_def] at h
    simp only at h
    rw [if_neg (by decide),if_pos trivial] at h
    cases h
  | 0,_ :: _,_,_,h,_,_,_=>by simp at h
  | k + 1,c :: m,r,x,hm,hl,h,hx=>by
    rw [List.cons_append,List.cons_append]
    rw [List.cons_append] at h
    rw [closing.eq_def] at h ⊢
    simp only at h ⊢
    have hc:¬ c=LINE:=fun e=>hl (by rw [e]; exact List.mem_cons_self)
    rw [if_neg hc] at h ⊢
    by_cases hq:c=QUOTE
    · rw [if_pos hq] at h; cases h
    · rw [if_neg hq] at h ⊢
      by_cases hb:c=BACK
      · rw [if_pos hb] at h ⊢
        cases m with
        | nil =>
          simp only [List.nil_append,List.cons_append] at h ⊢
          rw [if_neg (by decide)] at h ⊢
          rw [hx]
          rfl
        | cons d s =>
          simp only [List.cons_append] at h ⊢
          have hd:¬ d=LINE:=fun e=>hl (by rw [e]; exact List.mem_cons_of_mem _ List.mem_cons_self)
          rw [if_neg hd] at h ⊢
          have h':closing (s ++ QUOTE :: r)=none:=by
            cases e:closing (s ++ QUOTE :: r) with
            | none=>rfl
            | some k=>rw [e] at h; cases h
          rw [closing_chain k s r x (by simp at hm; omega) (fun e=>hl (List.mem_cons_of_mem _ (List.mem_cons_of_mem _ e))) h' hx]
          rfl
      · rw [if_neg hb] at h ⊢
        have h':closing (m ++ QUOTE :: r)=none:=by
          cases e:closing (m ++ QUOTE :: r) with
          | none=>rfl
          | some k=>rw [e] at h; cases h
        rw [closing_chain k m r x (by simp at hm; omega) (fun e=>hl (List.mem_cons_of_mem _ e)) h' hx]
        rfl
theorem numberLength_app {r x:Bytes} (h1:r.drop (numberLength r - 1) ≠ []) (h2:r.drop (numberLength r - 1) ≠ [POINT]):numberLength (r ++ x)=numberLength r:=by
  have hlt:(r.takeWhile isDigit).length < r.length:=by
    have hle:=takeWhile_length_le isDigit r
    rcases Nat.lt_or_ge (r.takeWhile isDigit).length r.length with h | h
    · exact h
    · exfalso
      apply h1
      have e:numberLength r - 1=r.length:=by
        unfold numberLength
        simp only
        rw [List.drop_eq_nil_of_le h]
        simp only
        omega
      rw [e,List.drop_length]
  have et:(r ++ x).takeWhile isDigit=r.takeWhile isDigit:=takeWhile_append_of_lt x hlt
  unfold numberLength at h1 h2 ⊢
  simp only at h1 h2 ⊢
  rw [et]
  rw [List.drop_append_of_le_length (Nat.le_of_lt hlt)]
  generalize hn:(r.takeWhile isDigit).length=n at *
  cases e:r.drop n with
  | nil=>have:=List.length_drop (l:=r) (i:=n); rw [e] at this; simp at this; omega
  | cons p tl =>
    rw [e] at h1 h2
    cases tl with
    | nil =>
      simp only [Nat.add_sub_cancel] at h1 h2
      rw [e] at h2
      have hp:¬ p=POINT:=fun q=>h2 (by rw [q])
      cases x with
      | nil=>rfl
      | cons d s =>
        simp only [List.cons_append,List.nil_append]
        rw [if_neg (fun q=>hp q.1)]
    | cons d s =>
      simp only [List.cons_append] at h1 h2 ⊢
      by_cases hp:p=POINT∧isDigit d=true
      · rw [if_pos hp] at h1 h2 ⊢
        rw [if_pos hp]
        have hs:(s.takeWhile isDigit).length < s.length:=by
          have hle:=takeWhile_length_le isDigit s
          rcases Nat.lt_or_ge (s.takeWhile isDigit).length s.length with h | h
          · exact h
          · exfalso
            apply h1
            apply List.drop_eq_nil_of_le
            have:=List.length_drop (l:=r) (i:=n)
            rw [e] at this
            simp at this
            omega
        rw [takeWhile_append_of_lt x hs]
      · rw [if_neg hp,if_neg hp]
theorem numberLength_take (r:Bytes):numberLength (r.take (numberLength r - 1))=numberLength r:=by
  have hlt:=takeWhile_length_le isDigit r
  unfold numberLength
  simp only
  generalize hn:(r.takeWhile isDigit).length=n at *
  have base:∀ (_:Unit),(let m:=((r.take n).takeWhile isDigit).length
      match (r.take n).drop m with
      | p :: d :: s=>if p=POINT∧isDigit d=true then m + 3 + (s.takeWhile isDigit).length else m + 1
      | _=>m + 1)=n + 1:=by
    intro _
    have e1:(r.take n).takeWhile isDigit=r.takeWhile isDigit:=by rw [← hn]; exact takeWhile_take r
    simp only
    rw [e1,hn]
    have e2:(r.take n).drop n=[]:=List.drop_eq_nil_of_le (by rw [List.length_take]; omega)
    rw [e2]
  cases e:r.drop n with
  | nil =>
    simp only [Nat.add_sub_cancel]
    exact base ()
  | cons p tl =>
    cases tl with
    | nil =>
      simp only [Nat.add_sub_cancel]
      exact base ()
    | cons d s =>
      simp only
      by_cases hp:p=POINT∧isDigit d=true
      · rw [if_pos hp]
        have hr:r=r.takeWhile isDigit ++ p :: d :: s:=by
          have:=List.take_append_drop n r
          rw [e] at this
          rw [← hn,take_takeWhile_len] at this
          exact this.symm
        have ln:(r.takeWhile isDigit).length=n:=hn
        have et:r.take (n + 3 + (s.takeWhile isDigit).length - 1)=r.takeWhile isDigit ++ p :: d :: s.takeWhile isDigit:=by
          conv=>lhs; rw [hr]
          have e1:n + 3 + (s.takeWhile isDigit).length - 1=(r.takeWhile isDigit).length + ((s.takeWhile isDigit).length + 2):=by omega
          rw [e1,List.take_length_add_append]
          simp only [List.take_succ_cons,take_takeWhile_len]
        rw [et]
        have nd:isDigit p=false:=by
          rw [hp.1]; rfl
        have ew:(r.takeWhile isDigit ++ p :: d :: s.takeWhile isDigit).takeWhile isDigit=r.takeWhile isDigit:=by
          rw [List.takeWhile_append_of_pos (fun a ha=>by
            have:=List.all_takeWhile (p:=isDigit) (l:=r)
            exact List.all_eq_true.mp this a ha)]
          rw [List.takeWhile_cons,if_neg (by rw [nd]; decide),List.append_nil]
        rw [ew,ln]
        rw [show (r.takeWhile isDigit ++ p :: d :: s.takeWhile isDigit).drop n=p :: d :: s.takeWhile isDigit by
          rw [← ln,List.drop_left]]
        simp only
        rw [if_pos hp]
        have:(s.takeWhile isDigit).takeWhile isDigit=s.takeWhile isDigit:=by
          have q:=takeWhile_take (p:=isDigit) s
          rw [take_takeWhile_len] at q
          exact q
        rw [this]
      · rw [if_neg hp]
        simp only [Nat.add_sub_cancel]
        exact base ()
end MC
end
section
namespace MC
open Vafmta
def Plain (c:UInt8):Prop:=c=BLANK ∨ c=LINE ∨ c=HASH
instance (c:UInt8):Decidable (Plain c):=inferInstanceAs (Decidable (_ ∨ _))
theorem kind_blank {r:Bytes}:firstOf BLANK r=(.blank,1):=by unfold firstOf; rw [if_pos rfl]
theorem kind_line {r:Bytes}:firstOf LINE r=(.line,1):=by
  unfold firstOf; rw [if_neg (by decide),if_pos rfl]
theorem kind_hash {r:Bytes}:firstOf HASH r=(.comment,1 + (r.takeWhile fun b=>b != LINE).length):=by
  unfold firstOf; rw [if_neg (by decide),if_neg (by decide),if_pos rfl]
theorem tok_of {c:UInt8} (h:¬ Plain c) (r:Bytes):(head c r).isToken=true:=by
  unfold Plain at h
  have h1:¬ c=BLANK:=fun e=>h (.inl e)
  have h2:¬ c=LINE:=fun e=>h (.inr (.inl e))
  have h3:¬ c=HASH:=fun e=>h (.inr (.inr e))
  unfold head Piece.isToken firstOf
  rw [if_neg h1,if_neg h2,if_neg h3]
  by_cases q1:isLetter c=true
  · rw [if_pos q1]
  · rw [if_neg q1]
    by_cases q2:isDigit c=true
    · rw [if_pos q2]
    · rw [if_neg q2]
      by_cases q3:c=QUOTE
      · rw [if_pos q3]
        cases closing r <;> rfl
      · rw [if_neg q3]
        by_cases q4:signLength c r=0
        · rw [if_pos q4]
        · rw [if_neg q4]
theorem signLength_app {c:UInt8}{r x:Bytes} (h:r ≠ []):signLength c (r ++ x)=signLength c r:=by
  cases r with
  | nil=>exact absurd rfl h
  | cons d s=>rfl
theorem rest_ne {c:UInt8}{r:Bytes} (h:rest c r ≠ []):(firstOf c r).2 < r.length + 1:=by
  rcases Nat.lt_or_ge (firstOf c r).2 (r.length + 1) with q | q
  · exact q
  · exact absurd (List.drop_eq_nil_of_le (by simpa using q)) h
theorem st1_of {c:UInt8}{r x:Bytes} (h1:rest c r ≠ []) (h2:isDigit c=true->rest c r ≠ [POINT]) (h3:c=QUOTE->closing r=none->closing (r ++ x)=none):St1 x c r:=by
  have hlt:=rest_ne h1
  unfold St1
  unfold rest at h1 h2
  unfold firstOf at h1 h2 hlt ⊢
  by_cases a1:c=BLANK
  · rw [if_pos a1,if_pos a1]
  rw [if_neg a1] at h1 h2 hlt
  rw [if_neg a1,if_neg a1]
  by_cases a2:c=LINE
  · rw [if_pos a2,if_pos a2]
  rw [if_neg a2] at h1 h2 hlt
  rw [if_neg a2,if_neg a2]
  by_cases a3:c=HASH
  · rw [if_pos a3] at hlt
    rw [if_pos a3,if_pos a3]
    simp only at hlt
    rw [takeWhile_append_of_lt x (by omega)]
  rw [if_neg a3] at h1 h2 hlt
  rw [if_neg a3,if_neg a3]
  by_cases a4:isLetter c=true
  · rw [if_pos a4] at hlt
    rw [if_pos a4,if_pos a4]
    simp only at hlt
    rw [takeWhile_append_of_lt x (by omega)]
  rw [if_neg a4] at h1 h2 hlt
  rw [if_neg a4,if_neg a4]
  by_cases a5:isDigit c=true
  · rw [if_pos a5] at h1 h2
    rw [if_pos a5,if_pos a5]
    have hb:=numberLength_bound r
    have e:(c :: r).drop (numberLength r)=r.drop (numberLength r - 1):=by
      conv=>lhs; rw [show numberLength r=(numberLength r - 1) + 1 by omega]
      rw [List.drop_succ_cons]
    simp only at h1 h2
    rw [e] at h1 h2
    rw [numberLength_app h1 (h2 a5)]
  rw [if_neg a5] at h1 h2 hlt
  rw [if_neg a5,if_neg a5]
  by_cases a6:c=QUOTE
  · rw [if_pos a6,if_pos a6]
    cases e:closing r with
    | none=>rw [h3 a6 e]
    | some n=>rw [closing_some_app _ r x n (Nat.le_refl _) e]
  rw [if_neg a6] at h1 h2 hlt
  rw [if_neg a6,if_neg a6]
  have hr:r ≠ []:=by
    intro e
    subst e
    by_cases q4:signLength c []=0
    · rw [if_pos q4] at h1; exact h1 rfl
    · rw [if_neg q4] at h1
      have:=signLength_bound c []
      apply h1
      simp only
      apply List.drop_eq_nil_of_le
      simp only [List.length_cons,List.length_nil]
      omega
  rw [signLength_app hr]
theorem st1_plain {c:UInt8}{r x:Bytes} (h:c=BLANK ∨ c=LINE):St1 x c r:=by
  unfold St1
  rcases h with h | h
  · subst h; rw [kind_blank,kind_blank]
  · subst h; rw [kind_line,kind_line]
theorem st1_line {c:UInt8}{r x:Bytes}:St1 (LINE :: x) c r:=by
  by_cases h:c=BLANK ∨ c=LINE
  · exact st1_plain h
  have a1:¬ c=BLANK:=fun e=>h (.inl e)
  have a2:¬ c=LINE:=fun e=>h (.inr e)
  have tw:∀ {p:UInt8->Bool},p LINE=false->(r ++ LINE :: x).takeWhile p=r.takeWhile p:=by
    intro p hp
    induction r with
    | nil=>rw [List.nil_append,List.takeWhile_cons,if_neg (by rw [hp]; decide)]; rfl
    | cons a l ih =>
      rw [List.cons_append,List.takeWhile_cons,List.takeWhile_cons,ih]
  unfold St1 firstOf
  rw [if_neg a1,if_neg a1,if_neg a2,if_neg a2]
  by_cases a3:c=HASH
  · rw [if_pos a3,if_pos a3,tw (by decide)]
  rw [if_neg a3,if_neg a3]
  by_cases a4:isLetter c=true
  · rw [if_pos a4,if_pos a4,tw (by decide)]
  rw [if_neg a4,if_neg a4]
  by_cases a5:isDigit c=true
  · rw [if_pos a5,if_pos a5]
    have e:numberLength (r ++ LINE :: x)=numberLength r:=by
      unfold numberLength
      simp only
      rw [tw (by decide)]
      have hle:=takeWhile_length_le isDigit r
      rw [List.drop_append_of_le_length hle]
      generalize (r.takeWhile isDigit).length=n at *
      cases e:r.drop n with
      | nil =>
        simp only [List.nil_append]
        cases x with
        | nil=>rfl
        | cons d s =>
          simp only
          rw [if_neg (by intro q; exact absurd q.1 (by decide))]
      | cons p tl =>
        cases tl with
        | nil =>
          simp only [List.cons_append,List.nil_append]
          rw [if_neg (by intro q; exact absurd q.2 (by decide))]
        | cons d s =>
          simp only [List.cons_append]
          by_cases hp:p=POINT∧isDigit d=true
          · rw [if_pos hp,if_pos hp]
            have:(s ++ LINE :: x).takeWhile isDigit=s.takeWhile isDigit:=by
              clear e
              induction s with
              | nil=>rw [List.nil_append,List.takeWhile_cons,if_neg (by decide)]; rfl
              | cons a l ih=>rw [List.cons_append,List.takeWhile_cons,List.takeWhile_cons,ih]
            rw [this]
          · rw [if_neg hp,if_neg hp]
    rw [e]
  rw [if_neg a5,if_neg a5]
  by_cases a6:c=QUOTE
  · rw [if_pos a6,if_pos a6]
    cases e:closing r with
    | some n=>rw [closing_some_app _ r _ n (Nat.le_refl _) e]
    | none =>
      have:closing (r ++ LINE :: x)=none:=by
        have q:closing (r ++ [LINE])=none:=closing_none_app _ r [LINE] (Nat.le_refl _) e (.inl (by decide))
        have:=closing_none_app _ (r ++ [LINE]) x (Nat.le_refl _) q (.inr (by simp))
        rw [List.append_assoc] at this
        exact this
      rw [this]
  rw [if_neg a6,if_neg a6]
  have es:signLength c (r ++ LINE :: x)=signLength c r:=by
    cases r with
    | cons d s=>rfl
    | nil =>
      rw [List.nil_append]
      unfold signLength
      simp only
      rw [if_neg]
      intro q
      have:∀ (l:List (UInt8 × UInt8)),(l.all fun p=>p.2 != LINE)=true->l.contains (c,LINE)=true->False:=by
        intro l hl hc
        have hm:=List.elem_iff.mp hc
        have:=List.all_eq_true.mp hl _ hm
        exact absurd this (show ¬ ((LINE != LINE)=true) by decide)
      exact this pairs (by decide) q
  rw [es]
theorem stays_line (x:Bytes):∀ (m:Nat) (t:Bytes),t.length ≤ m->Stays (LINE :: x) t
  | _,[],_=>stays_nil _
  | 0,_ :: _,h=>by simp at h
  | m + 1,c :: r,h=>stays_cons.mpr ⟨st1_line,stays_line x m (rest c r) (by have:=rest_lt c r; simp at h this; omega)⟩
def Gen (p:Piece):Prop:=∃ c r,p=head c r
theorem signLength_one {c:UInt8}{r:Bytes} (h:signLength c r=1):signLength c []=1:=by
  unfold signLength at h ⊢
  cases r with
  | nil=>exact h
  | cons d s =>
    simp only at h ⊢
    by_cases q:pairs.contains (c,d)=true
    · rw [if_pos q] at h; cases h
    · rw [if_neg q] at h; exact h
theorem signLength_zero {c:UInt8}{r:Bytes} (h:signLength c r=0):signLength c []=0:=by
  unfold signLength at h ⊢
  cases r with
  | nil=>exact h
  | cons d s =>
    simp only at h ⊢
    by_cases q:pairs.contains (c,d)=true
    · rw [if_pos q] at h; cases h
    · rw [if_neg q] at h; exact h
theorem signLength_le2 (c:UInt8) (r:Bytes):signLength c r ≤ 2:=by
  unfold signLength
  cases r with
  | nil=>simp only; split <;> omega
  | cons d s =>
    simp only
    split
    · omega
    · split <;> omega
theorem firstOf_self (c:UInt8) (r:Bytes):firstOf c (r.take ((firstOf c r).2 - 1))=firstOf c r:=by
  unfold firstOf
  by_cases a1:c=BLANK
  · simp only [if_pos a1]
  simp only [if_neg a1]
  by_cases a2:c=LINE
  · simp only [if_pos a2]
  simp only [if_neg a2]
  by_cases a3:c=HASH
  · simp only [if_pos a3,Nat.add_sub_cancel_left,takeWhile_take]
  simp only [if_neg a3]
  by_cases a4:isLetter c=true
  · simp only [if_pos a4,Nat.add_sub_cancel_left,takeWhile_take]
  simp only [if_neg a4]
  by_cases a5:isDigit c=true
  · simp only [if_pos a5,numberLength_take]
  simp only [if_neg a5]
  by_cases a6:c=QUOTE
  · simp only [if_pos a6]
    cases e:closing r with
    | some n =>
      simp only [Nat.add_sub_cancel]
      rw [closing_take _ r n (Nat.le_refl _) e]
    | none=>rfl
  simp only [if_neg a6]
  by_cases q:signLength c r=0
  · simp only [if_pos q,Nat.sub_self,List.take_zero]
    rw [if_pos (signLength_zero q)]
  · simp only [if_neg q]
    have hle:=signLength_le2 c r
    by_cases q1:signLength c r=1
    · rw [q1]
      simp only [Nat.sub_self,List.take_zero,signLength_one q1]
      rfl
    · have q2:signLength c r=2:=by omega
      have:signLength c (r.take (2 - 1))=2:=by
        cases r with
        | nil=>have:=signLength_bound c []; simp at this; omega
        | cons d s=>exact q2
      rw [q2,this]
      rfl
theorem cut_self (c:UInt8) (r:Bytes):cut (head c r).text=[head c r]:=by
  have hb:=firstOf_bound c r
  have e:(head c r).text=c :: r.take ((firstOf c r).2 - 1):=by
    unfold head
    simp only
    conv=>lhs; rw [show (firstOf c r).2=((firstOf c r).2 - 1) + 1 by omega]
    rw [List.take_succ_cons]
  rw [e,cut_cons]
  have ef:=firstOf_self c r
  have eh:head c (r.take ((firstOf c r).2 - 1))=head c r:=by
    unfold head
    rw [ef]
    congr 1
    conv=>lhs; rw [show (firstOf c r).2=((firstOf c r).2 - 1) + 1 by omega]
    conv=>rhs; rw [show (firstOf c r).2=((firstOf c r).2 - 1) + 1 by omega]
    rw [List.take_succ_cons,List.take_succ_cons,List.take_take,Nat.add_sub_cancel,Nat.min_self]
  have er:rest c (r.take ((firstOf c r).2 - 1))=[]:=by
    unfold rest
    rw [ef]
    apply List.drop_eq_nil_of_le
    rw [List.length_cons,List.length_take]
    simp only [List.length_cons] at hb
    omega
  rw [eh,er,cut_nil]
theorem Gen.cut {p:Piece} (h:Gen p):cut p.text=[p]:=by
  obtain ⟨c,r,rfl⟩:=h
  exact cut_self c r
def NoComm (t:Bytes):Prop:=∀ p ∈ cut t,p.kind ≠ .comment
theorem NoComm.rest {c:UInt8}{r:Bytes} (h:NoComm (c :: r)):NoComm (rest c r):=fun p hp=>h p (by rw [cut_cons]; exact List.mem_cons_of_mem _ hp)
theorem stays_of_tokens (x:Bytes) (l:List Piece):∀ (m:Nat) (t:Bytes),t.length ≤ m->NoComm t->tokenPieces (cut (t ++ x))=tokenPieces (cut t) ++ l->Stays x t
  | _,[],_,_,_=>stays_nil _
  | 0,_ :: _,h,_,_=>by simp at h
  | m + 1,c :: r,h,hn,ht=>by
    have hl:=rest_lt c r
    have next:St1 x c r->Stays x (c :: r):=by
      intro s1
      refine stays_cons.mpr ⟨s1,stays_of_tokens x l m (rest c r) (by simp at h hl; omega) hn.rest ?_⟩
      rw [List.cons_append,cut_cons,cut_cons,(head_st s1).1,(head_st s1).2] at ht
      unfold tokenPieces at ht ⊢
      rw [List.filter_cons,List.filter_cons] at ht
      split at ht
      · rw [List.cons_append] at ht
        exact (List.cons.inj ht).2
      · exact ht
    by_cases hp:Plain c
    · apply next
      rcases hp with e | e | e
      · exact st1_plain (.inl e)
      · exact st1_plain (.inr e)
      · exfalso
        subst e
        exact hn (head HASH r) (by rw [cut_cons]; exact List.mem_cons_self) (by unfold head; rw [kind_hash])
    · apply next
      rw [List.cons_append,cut_cons,cut_cons] at ht
      unfold tokenPieces at ht
      rw [List.filter_cons,if_pos (tok_of hp _),List.filter_cons,if_pos (tok_of hp _),List.cons_append] at ht
      have h1:=(List.cons.inj ht).1
      exact Prod.ext (congrArg Piece.kind h1) (by rw [← head_len,← head_len,h1])
theorem tokens_of_stays {x t:Bytes} (h:Stays x t):tokenPieces (cut (t ++ x))=tokenPieces (cut t) ++ tokenPieces (cut x):=by
  unfold Stays at h
  unfold tokenPieces
  rw [h,List.filter_append]
theorem cut_blank (t:Bytes):cut (BLANK :: t)=⟨.blank,[BLANK]⟩ :: cut t:=by
  rw [cut_cons]
  unfold head rest
  rw [kind_blank]
  rfl
theorem cut_line (t:Bytes):cut (LINE :: t)=⟨.line,[LINE]⟩ :: cut t:=by
  rw [cut_cons]
  unfold head rest
  rw [kind_line]
  rfl
end MC
end
section
namespace MC
open Vafmta
inductive Bd : Bytes->Bytes->Prop where
  | here (t:Bytes):Bd t t
  | next (c:UInt8) (r u:Bytes) (h:Bd (rest c r) u):Bd (c :: r) u
theorem Bd.le {t u:Bytes} (h:Bd t u):u.length ≤ t.length:=by
  induction h with
  | here=>exact Nat.le_refl _
  | next c r u h ih=>exact Nat.le_trans ih (Nat.le_of_lt (rest_lt c r))
theorem Bd.suff {t u:Bytes} (h:Bd t u):∃ m,t=m ++ u:=by
  induction h with
  | here=>exact ⟨[],rfl⟩
  | next c r u h ih =>
    obtain ⟨m,e⟩:=ih
    refine ⟨(head c r).text ++ m,?_⟩
    rw [List.append_assoc,← e]
    exact (head_rest c r).symm
theorem Bd.trans {t u v:Bytes} (h:Bd t u) (h':Bd u v):Bd t v:=by
  induction h with
  | here=>exact h'
  | next c r u _ ih=>exact .next c r v (ih h')
theorem Bd.order {t u v:Bytes} (h:Bd t u) (h':Bd t v) (l:v.length ≤ u.length):Bd u v:=by
  induction h with
  | here=>exact h'
  | next c r u h ih =>
    cases h' with
    | here =>
      have:=h.le
      have:=rest_lt c r
      omega
    | next c' r' v' h''=>exact ih h'' l
theorem Bd.lt_rest {c:UInt8}{r u:Bytes} (h:Bd (c :: r) u) (l:u.length < (c :: r).length):Bd (rest c r) u:=by
  cases h with
  | here=>exact absurd l (Nat.lt_irrefl _)
  | next _ _ _ h=>exact h
theorem Bd.nocomm {t u:Bytes} (h:Bd t u) (n:NoComm t):NoComm u:=by
  induction h with
  | here=>exact n
  | next c r u h ih=>exact ih n.rest
theorem Bd.stays {x t u:Bytes} (h:Bd t u) (s:Stays x t):Stays x u:=by
  induction h with
  | here=>exact s
  | next c r u h ih=>exact ih (stays_cons.mp s).2
theorem Bd.back {x t u:Bytes} (h:Bd t u) (s:Stays x u) (k:∀ c r,Bd t (c :: r)->u.length < (c :: r).length->St1 x c r):Stays x t:=by
  induction h with
  | here=>exact s
  | next c r u h ih =>
    refine stays_cons.mpr ⟨k c r (.here _) (Nat.lt_of_le_of_lt h.le (rest_lt c r)),ih s fun c' r' h' l=>k c' r' (.next c r _ h') l⟩
theorem Bd.app {x t u:Bytes} (s:Stays x t) (h:Bd t u):Bd (t ++ x) (u ++ x):=by
  induction h with
  | here=>exact .here _
  | next c r u h ih =>
    have q:=stays_cons.mp s
    refine .next c (r ++ x) _ ?_
    rw [(head_st q.1).2]
    exact ih q.2
theorem bd_app_inv {x:Bytes}:∀ (m:Nat) (t u:Bytes),t.length ≤ m->Stays x t->Bd (t ++ x) u->(∃ v,Bd t v∧v ≠ []∧u=v ++ x) ∨ Bd x u
  | _,[],u,_,_,h=>.inr h
  | 0,_ :: _,_,h,_,_=>by simp at h
  | m + 1,c :: r,u,hm,s,h=>by
    have q:=stays_cons.mp s
    generalize ht:(c :: r) ++ x=t' at h
    cases h with
    | here=>exact .inl ⟨c :: r,.here _,List.cons_ne_nil _ _,ht.symm⟩
    | next c' r' u' h' =>
      rw [List.cons_append] at ht
      obtain ⟨e1,e2⟩:=List.cons.inj ht
      subst e1 e2
      rw [(head_st q.1).2] at h'
      have:=rest_lt c r
      rcases bd_app_inv m (rest c r) u (by simp at hm this; omega) q.2 h' with ⟨v,hv,hn,e⟩ | h2
      · exact .inl ⟨v,.next c r v hv,hn,e⟩
      · exact .inr h2
theorem tok_le : ∀ (m:Nat) (t:Bytes),t.length ≤ m->(tokenPieces (cut t)).length ≤ t.length
  | _,[],_=>Nat.le_refl _
  | 0,_ :: _,h=>by simp at h
  | m + 1,c :: r,h=>by
    have:=rest_lt c r
    have ih:=tok_le m (rest c r) (by simp at h this; omega)
    rw [cut_cons]
    unfold tokenPieces at ih ⊢
    rw [List.filter_cons]
    split
    · simp at this ⊢; omega
    · simp at this ⊢; omega
structure W where
  text:Bytes
  toks:List Piece
  begins:List Nat
  oq:Option Nat
def W.start : W:=⟨[],[],[],none⟩
def oddQ : Piece:=⟨.odd,[QUOTE]⟩
def W.unsure (w:W) (p:Piece):Nat:=match w.oq with
  | some k=>if QUOTE ∈ p.text then min (w.toks.length - 2) k else w.toks.length - 2
  | none=>w.toks.length - 2
def W.place (w:W) (p:Piece):Nat:=(w.begins[w.unsure p]?).getD 0
def W.fits (w:W) (between:Bytes) (p:Piece):Prop:=tokenPieces (cut (w.text.drop (w.place p) ++ (between ++ p.text)))=w.toks.drop (w.unsure p) ++ [p]
instance (w:W) (b:Bytes) (p:Piece):Decidable (w.fits b p):=inferInstanceAs (Decidable (_=_))
def W.write (w:W) (between:Bytes) (p:Piece):W :=
  ⟨w.text ++ (between ++ p.text),w.toks ++ [p],w.begins ++ [w.text.length + between.length],if p=oddQ then some w.toks.length else w.oq⟩
def W.put (w:W) (p:Piece):W :=
  if w.fits [] p then w.write [] p
  else if w.fits [BLANK] p then w.write [BLANK] p
  else W.write { w with oq:=none } [LINE] p
structure WInv (w:W):Prop where
  toks:tokenPieces (cut w.text)=w.toks
  nocomm:NoComm w.text
  len:w.begins.length=w.toks.length
  bd:∀ (i b:Nat),w.begins[i]?=some b->Bd w.text (w.text.drop b)∧tokenPieces (cut (w.text.drop b))=w.toks.drop i∧b ≤ w.text.length
  zero:∀ (b:Nat),w.begins[0]?=some b->b=0
  mono:∀ (i j b c:Nat),i ≤ j->w.begins[i]?=some b->w.begins[j]?=some c->b ≤ c
  quote:∀ r,Bd w.text (QUOTE :: r)->closing r=none->LINE ∈ r ∨ ∃ k b ro,w.oq=some k∧w.begins[k]?=some b∧w.text.drop b=QUOTE :: ro∧closing ro=none∧ro.length ≤ r.length
  oqlt:∀ k,w.oq=some k->k < w.toks.length
  empty:w.toks=[]->w.text=[]
theorem WInv.start : WInv W.start where
  toks:=rfl
  nocomm:=fun p hp=>by cases hp
  len:=rfl
  bd:=fun i b h=>by simp [W.start] at h
  zero:=fun b h=>by simp [W.start] at h
  mono:=fun i j b c _ h _=>by simp [W.start] at h
  quote:=fun r h _=>by
    have:=h.le
    simp [W.start] at this
  oqlt:=fun k h=>by cases h
  empty:=fun _=>rfl
theorem gen_start {p:Piece} (g:Gen p):∃ c s,p.text=c :: s:=by
  obtain ⟨c,r,rfl⟩:=g
  have hb:=firstOf_bound c r
  refine ⟨c,r.take ((firstOf c r).2 - 1),?_⟩
  unfold head
  simp only
  conv=>lhs; rw [show (firstOf c r).2=((firstOf c r).2 - 1) + 1 by omega]
  rw [List.take_succ_cons]
theorem cut_between {between:Bytes}{p:Piece} (g:Gen p) (hb:between=[] ∨ between=[BLANK]):∃ A,cut (between ++ p.text)=A ++ [p]∧tokenPieces A=[]∧(∀ q ∈ A,q.kind ≠ .comment):=by
  rcases hb with rfl | rfl
  · exact ⟨[],by rw [List.nil_append,g.cut]; rfl,rfl,fun q h=>by cases h⟩
  · refine ⟨[⟨.blank,[BLANK]⟩],?_,rfl,fun q h=>?_⟩
    · rw [List.cons_append,List.nil_append,cut_blank,g.cut]; rfl
    · rw [List.mem_singleton.mp h]; exact fun e=>nomatch e
theorem tokens_between {between:Bytes}{p:Piece} (g:Gen p) (ht:p.isToken=true) (hb:between=[] ∨ between=[BLANK]):tokenPieces (cut (between ++ p.text))=[p]:=by
  obtain ⟨A,e,h,_⟩:=cut_between g hb
  unfold tokenPieces at h ⊢
  rw [e,List.filter_append,h,List.filter_cons,if_pos ht]
  rfl
theorem fits_stays {t x:Bytes}{l:List Piece}{p:Piece} (n:NoComm t) (ht:tokenPieces (cut t)=l) (hx:tokenPieces (cut x)=[p]):tokenPieces (cut (t ++ x))=l ++ [p] ↔ Stays x t:=by
  constructor
  · intro h
    exact stays_of_tokens x [p] _ t (Nat.le_refl _) n (by rw [h,ht])
  · intro s
    rw [tokens_of_stays s,ht,hx]
theorem unsure_le (w:W) (p:Piece):w.unsure p ≤ w.toks.length - 2:=by
  unfold W.unsure
  split
  · split
    · exact Nat.min_le_left _ _
    · exact Nat.le_refl _
  · exact Nat.le_refl _
theorem WInv.fits {w:W}{p:Piece}{between:Bytes} (I:WInv w) (g:Gen p) (ht:p.isToken=true) (hb:between=[] ∨ between=[BLANK]) :
    w.fits between p ↔ Stays (between ++ p.text) w.text:=by
  have hx:=tokens_between g ht hb
  have hu:=unsure_le w p
  unfold W.fits W.place
  by_cases h0:w.unsure p=0
  · rw [h0]
    have e:(w.begins[0]?).getD 0=0:=by
      cases e:w.begins[0]? with
      | none=>rfl
      | some b=>exact I.zero b e
    rw [e,List.drop_zero,List.drop_zero]
    exact fits_stays I.nocomm I.toks hx
  · have hlt:w.unsure p < w.begins.length:=by rw [I.len]; omega
    obtain ⟨b,eb⟩:∃ b,w.begins[w.unsure p]?=some b:=⟨_,List.getElem?_eq_getElem hlt⟩
    obtain ⟨B1,B2,B3⟩:=I.bd _ _ eb
    rw [eb]
    show tokenPieces (cut (w.text.drop b ++ (between ++ p.text)))=_ ↔ _
    rw [fits_stays (B1.nocomm I.nocomm) B2 hx]
    refine ⟨fun s=>?_,fun s=>B1.stays s⟩
    refine B1.back s fun c r hc hl=>?_
    have hr:=(hc.order B1 (Nat.le_of_lt hl)).lt_rest hl
    have two:2 ≤ (w.text.drop b).length:=by
      have:=tok_le _ (w.text.drop b) (Nat.le_refl _)
      rw [B2,List.length_drop] at this
      omega
    have rl:=hr.le
    refine st1_of (fun e=>?_) (fun _ e=>?_) (fun hq hcl=>?_)
    · rw [e] at rl; simp only [List.length_nil] at rl; omega
    · rw [e] at rl; simp only [List.length_cons,List.length_nil] at rl; omega
    · subst hq
      rcases I.quote r hc hcl with hL | ⟨k,bo,ro,hk,hbo,hro,hcr,hle⟩
      · exact closing_none_app _ r _ (Nat.le_refl _) hcl (.inr hL)
      · by_cases hq:QUOTE ∈ p.text
        · by_cases hLr:LINE ∈ r
          · exact closing_none_app _ r _ (Nat.le_refl _) hcl (.inr hLr)
          have hk2:w.unsure p ≤ k:=by
            unfold W.unsure
            rw [hk]
            simp only
            rw [if_pos hq]
            exact Nat.min_le_right _ _
          have hm:=I.mono _ _ _ _ hk2 eb hbo
          have Bo:=(I.bd _ _ hbo).1
          rw [hro] at Bo
          have hlo:(QUOTE :: ro).length ≤ (w.text.drop b).length:=by
            rw [← hro,List.length_drop,List.length_drop]; omega
          have s2:=(B1.order Bo hlo).stays s
          have s3:=(stays_cons.mp s2).1
          have hcx:closing (ro ++ (between ++ p.text))=none:=by
            unfold St1 firstOf at s3
            rw [if_neg (by decide),if_neg (by decide),if_neg (by decide),if_neg (by decide),if_neg (by decide),if_pos rfl] at s3
            rw [if_neg (by decide),if_neg (by decide),if_neg (by decide),if_neg (by decide),if_neg (by decide),if_pos rfl] at s3
            rw [hcr] at s3
            cases e:closing (ro ++ (between ++ p.text)) with
            | none=>rfl
            | some n=>rw [e] at s3; exact absurd (congrArg Prod.fst s3) (fun z=>nomatch z)
          have Bq:=hc.order Bo (by simp only [List.length_cons]; omega)
          have Bq':=Bq.lt_rest (by
            have h1:(QUOTE :: ro).length ≤ (w.text.drop b).length:=hlo
            simp only [List.length_cons] at h1 hl ⊢; omega)
          obtain ⟨m,em⟩:=Bq'.suff
          have ek:firstOf QUOTE r=(.odd,1):=by
            unfold firstOf
            rw [if_neg (by decide),if_neg (by decide),if_neg (by decide),if_neg (by decide),if_neg (by decide),if_pos rfl,hcl]
          have er:rest QUOTE r=r:=by
            unfold rest
            rw [ek]
            rfl
          rw [er] at em
          rw [em] at hcl hLr ⊢
          exact closing_chain _ m ro _ (Nat.le_refl _) (fun e=>hLr (List.mem_append_left _ e)) hcl hcx
        · refine closing_none_app _ r _ (Nat.le_refl _) hcl (.inl fun e=>?_)
          rcases List.mem_append.mp e with e | e
          · rcases hb with rfl | rfl
            · cases e
            · exact absurd (List.mem_singleton.mp e) (by decide)
          · exact hq e
theorem drop_app {α:Type}{l x:List α}{b:Nat} (h:b ≤ l.length):(l ++ x).drop b=l.drop b ++ x:=List.drop_append_of_le_length h
theorem WInv.step {w:W}{p:Piece}{between:Bytes}{oq:Option Nat} (I:WInv w) (g:Gen p) (ht:p.isToken=true) {A:List Piece} (hA:cut (between ++ p.text)=A ++ [p]) (hA1:tokenPieces A=[]) (hA2:∀ q ∈ A,q.kind ≠ .comment)
    (hz:w.toks=[]->between=[]) (hbp:Bd (between ++ p.text) p.text)
    (hbi:∀ r,Bd (between ++ p.text) (QUOTE :: r)->QUOTE :: r=p.text)
    (s:Stays (between ++ p.text) w.text)
    (ho:∀ k,oq=some k->k < w.toks.length)
    (hq:∀ r,Bd w.text (QUOTE :: r)->closing r=none->LINE ∈ r ++ (between ++ p.text) ∨ ∃ k b ro,oq=some k∧w.begins[k]?=some b∧w.text.drop b=QUOTE :: ro∧closing (ro ++ (between ++ p.text))=none∧ro.length ≤ r.length) :
    WInv (W.write { w with oq:=oq } between p):=by
  have htx:tokenPieces (cut (between ++ p.text))=[p]:=by
    unfold tokenPieces at hA1 ⊢
    rw [hA,List.filter_append,hA1,List.filter_cons,if_pos ht]
    rfl
  have gp:∀ (i:Nat) (b:Nat),(w.begins ++ [w.text.length + between.length])[i]?=some b->(w.begins[i]?=some b∧i < w.toks.length) ∨ (i=w.toks.length∧b=w.text.length + between.length):=by
    intro i b h
    rcases Nat.lt_or_ge i w.begins.length with hi | hi
    · rw [List.getElem?_append_left hi] at h
      exact .inl ⟨h,by rw [← I.len]; exact hi⟩
    · rw [List.getElem?_append_right hi] at h
      have hi0:i - w.begins.length=0:=by
        rcases Nat.eq_zero_or_pos (i - w.begins.length) with z | z
        · exact z
        · rw [List.getElem?_eq_none (by simp only [List.length_singleton]; omega)] at h; cases h
      rw [hi0] at h
      exact .inr ⟨by rw [← I.len]; omega,(Option.some.inj h).symm⟩
  refine ⟨?_,?_,?_,?_,?_,?_,?_,?_,fun h=>absurd h (by intro e; have:=congrArg List.length e; simp [W.write] at this)⟩
  · show tokenPieces (cut (w.text ++ (between ++ p.text)))=w.toks ++ [p]
    rw [tokens_of_stays s,I.toks,htx]
  · intro q hq'
    have e:cut (w.text ++ (between ++ p.text))=cut w.text ++ cut (between ++ p.text):=s
    rw [show (W.write { w with oq:=oq } between p).text=w.text ++ (between ++ p.text) from rfl,e,hA] at hq'
    rcases List.mem_append.mp hq' with h | h
    · exact I.nocomm q h
    · rcases List.mem_append.mp h with h | h
      · exact hA2 q h
      · rw [List.mem_singleton.mp h]
        intro e
        rw [Piece.isToken,e] at ht
        cases ht
  · show (w.begins ++ [_]).length=(w.toks ++ [p]).length
    rw [List.length_append,List.length_append,I.len]
    rfl
  · intro i b h
    rcases gp i b h with ⟨h1,h2⟩ | ⟨h1,h2⟩
    · obtain ⟨B1,B2,B3⟩:=I.bd i b h1
      show Bd (w.text ++ (between ++ p.text)) ((w.text ++ (between ++ p.text)).drop b)∧tokenPieces (cut ((w.text ++ (between ++ p.text)).drop b))=(w.toks ++ [p]).drop i∧b ≤ (w.text ++ (between ++ p.text)).length
      rw [drop_app B3,List.drop_append_of_le_length (Nat.le_of_lt h2)]
      refine ⟨B1.app s,?_,by rw [List.length_append]; omega⟩
      rw [tokens_of_stays (B1.stays s),B2,htx]
    · subst h1 h2
      show Bd (w.text ++ (between ++ p.text)) ((w.text ++ (between ++ p.text)).drop _)∧tokenPieces (cut ((w.text ++ (between ++ p.text)).drop _))=(w.toks ++ [p]).drop _∧_ ≤ (w.text ++ (between ++ p.text)).length
      have e:(w.text ++ (between ++ p.text)).drop (w.text.length + between.length)=p.text:=by
        rw [← List.append_assoc,← List.length_append,List.drop_left]
      rw [e,List.drop_left,g.cut]
      refine ⟨?_,?_,by simp only [List.length_append]; omega⟩
      · have h1:Bd (w.text ++ (between ++ p.text)) (between ++ p.text):=by
          have:Bd w.text []:=by
            have aux:∀ (m:Nat) (t:Bytes),t.length ≤ m->Bd t []:=by
              intro m
              induction m with
              | zero=>intro t h; cases t with
                | nil=>exact .here _
                | cons=>simp at h
              | succ m ih=>intro t h; cases t with
                | nil=>exact .here _
                | cons c r=>exact .next c r _ (ih _ (by have:=rest_lt c r; simp at h this; omega))
            exact aux _ _ (Nat.le_refl _)
          exact this.app s
        exact h1.trans hbp
      · unfold tokenPieces
        rw [List.filter_cons,if_pos ht]
        rfl
  · intro b h
    rcases gp 0 b h with ⟨h1,h2⟩ | ⟨h1,h2⟩
    · exact I.zero b h1
    · have e:w.toks=[]:=List.length_eq_zero_iff.mp h1.symm
      have et:w.text=[]:=I.empty e
      rw [h2,et,hz e]
      rfl
  · intro i j b c hij hb hc
    rcases gp i b hb with ⟨h1,h2⟩ | ⟨h1,h2⟩
    · rcases gp j c hc with ⟨h3,h4⟩ | ⟨h3,h4⟩
      · exact I.mono i j b c hij h1 h3
      · have:=(I.bd i b h1).2.2
        omega
    · rcases gp j c hc with ⟨h3,h4⟩ | ⟨h3,h4⟩
      · omega
      · omega
  · intro r hr hcl
    show LINE ∈ r ∨ ∃ k b ro,(if p=oddQ then some w.toks.length else oq)=some k∧(w.begins ++ [w.text.length + between.length])[k]?=some b∧(w.text ++ (between ++ p.text)).drop b=QUOTE :: ro∧closing ro=none∧ro.length ≤ r.length
    have newq:p=oddQ->∃ k b ro,(if p=oddQ then some w.toks.length else oq)=some k∧(w.begins ++ [w.text.length + between.length])[k]?=some b∧(w.text ++ (between ++ p.text)).drop b=QUOTE :: ro∧closing ro=none∧ro.length ≤ r.length:=by
      intro hp
      refine ⟨w.toks.length,w.text.length + between.length,[],if_pos hp,?_,?_,rfl,Nat.zero_le _⟩
      · rw [← I.len,List.getElem?_append_right (Nat.le_refl _),Nat.sub_self]
        rfl
      · rw [← List.append_assoc,← List.length_append,List.drop_left,hp]
        rfl
    rcases bd_app_inv _ w.text _ (Nat.le_refl _) s hr with ⟨v,hv,hn,e⟩ | h
    · cases v with
      | nil=>exact absurd rfl hn
      | cons c r0 =>
        rw [List.cons_append] at e
        obtain ⟨e1,e2⟩:=List.cons.inj e
        subst e1 e2
        have hc0:closing r0=none:=by
          cases e:closing r0 with
          | none=>rfl
          | some n=>rw [closing_some_app _ r0 _ n (Nat.le_refl _) e] at hcl; cases hcl
        rcases hq r0 hv hc0 with h | ⟨k,b,ro,h1,h2,h3,h4,h5⟩
        · exact .inl h
        · by_cases hp:p=oddQ
          · exact .inr (newq hp)
          · refine .inr ⟨k,b,ro ++ (between ++ p.text),by rw [if_neg hp]; exact h1,?_,?_,h4,by simp only [List.length_append]; omega⟩
            · rw [List.getElem?_append_left (by rw [I.len]; exact ho k h1)]
              exact h2
            · rw [drop_app (I.bd k b h2).2.2,h3]
              rfl
    · have e:=hbi r h
      have hp:p=oddQ:=by
        have h1:=g.cut
        rw [← e,cut_cons] at h1
        have h2:=(List.cons.inj h1).1
        rw [← h2]
        unfold head firstOf
        rw [if_neg (by decide),if_neg (by decide),if_neg (by decide),if_neg (by decide),if_neg (by decide),if_pos rfl,hcl]
        rfl
      exact .inr (newq hp)
  · intro k hk
    show k < (w.toks ++ [p]).length
    rw [List.length_append]
    have hk':(if p=oddQ then some w.toks.length else oq)=some k:=hk
    by_cases hp:p=oddQ
    · rw [if_pos hp] at hk'
      have:=Option.some.inj hk'
      simp; omega
    · rw [if_neg hp] at hk'
      have:=ho k hk'
      simp; omega
theorem bd_pre {between:Bytes}{p:Piece} (hb:between=[] ∨ between=[BLANK] ∨ between=[LINE]):Bd (between ++ p.text) p.text:=by
  rcases hb with rfl | rfl | rfl
  · exact .here _
  · refine .next BLANK p.text p.text ?_
    unfold rest
    rw [kind_blank]
    exact .here _
  · refine .next LINE p.text p.text ?_
    unfold rest
    rw [kind_line]
    exact .here _
theorem bd_self {p:Piece} (g:Gen p) {c:UInt8}{r:Bytes} (h:Bd p.text (c :: r)):c :: r=p.text:=by
  generalize hp:p.text=t at h
  cases h with
  | here=>rfl
  | next c' r' u h' =>
    have h1:=g.cut
    rw [hp,cut_cons] at h1
    have h2:=(List.cons.inj h1).2
    have:rest c' r'=[]:=by
      have q:=bytes_cut _ (rest c' r') (Nat.le_refl _)
      rw [h2] at q
      exact q.symm
    rw [this] at h'
    have:=h'.le
    simp at this
theorem bd_quote {between:Bytes}{p:Piece} (g:Gen p) (hb:between=[] ∨ between=[BLANK] ∨ between=[LINE]) (r:Bytes) (h:Bd (between ++ p.text) (QUOTE :: r)):QUOTE :: r=p.text:=by
  have key:∀ c,c ≠ QUOTE->rest c p.text=p.text->Bd (c :: p.text) (QUOTE :: r)->QUOTE :: r=p.text:=by
    intro c hc hr h
    generalize ht:c :: p.text=t at h
    generalize hu:QUOTE :: r=u at h
    cases h with
    | here =>
      exfalso
      rw [← hu] at ht
      exact hc (List.cons.inj ht).1
    | next c' r' u' h' =>
      obtain ⟨e1,e2⟩:=List.cons.inj ht
      subst e1 e2
      rw [hr,← hu] at h'
      rw [← hu]
      exact bd_self g h'
  rcases hb with rfl | rfl | rfl
  · exact bd_self g h
  · exact key BLANK (by decide) (by unfold rest; rw [kind_blank]; rfl) h
  · exact key LINE (by decide) (by unfold rest; rw [kind_line]; rfl) h
theorem cut_between3 {between:Bytes}{p:Piece} (g:Gen p) (hb:between=[] ∨ between=[BLANK] ∨ between=[LINE]):∃ A,cut (between ++ p.text)=A ++ [p]∧tokenPieces A=[]∧(∀ q ∈ A,q.kind ≠ .comment):=by
  rcases hb with rfl | rfl | rfl
  · exact cut_between g (.inl rfl)
  · exact cut_between g (.inr rfl)
  · refine ⟨[⟨.line,[LINE]⟩],?_,rfl,fun q h=>?_⟩
    · rw [List.cons_append,List.nil_append,cut_line,g.cut]; rfl
    · rw [List.mem_singleton.mp h]; exact fun e=>nomatch e
theorem WInv.yes {w:W}{p:Piece}{between:Bytes} (I:WInv w) (g:Gen p) (ht:p.isToken=true) (hb:between=[] ∨ between=[BLANK]) (hz:w.toks=[]->between=[]) (s:Stays (between ++ p.text) w.text):WInv (w.write between p):=by
  have hb3:between=[] ∨ between=[BLANK] ∨ between=[LINE]:=hb.imp id .inl
  obtain ⟨A,a1,a2,a3⟩:=cut_between3 g hb3
  refine I.step (oq:=w.oq) g ht a1 a2 a3 hz (bd_pre hb3) (bd_quote g hb3) s I.oqlt fun r hr hc=>?_
  rcases I.quote r hr hc with h | ⟨k,b,ro,h1,h2,h3,h4,h5⟩
  · exact .inl (List.mem_append_left _ h)
  · refine .inr ⟨k,b,ro,h1,h2,h3,?_,h5⟩
    have B:=(I.bd k b h2).1
    rw [h3] at B
    have s3:=(stays_cons.mp (B.stays s)).1
    unfold St1 firstOf at s3
    rw [if_neg (by decide),if_neg (by decide),if_neg (by decide),if_neg (by decide),if_neg (by decide),if_pos rfl] at s3
    rw [if_neg (by decide),if_neg (by decide),if_neg (by decide),if_neg (by decide),if_neg (by decide),if_pos rfl] at s3
    rw [h4] at s3
    cases e:closing (ro ++ (between ++ p.text)) with
    | none=>rfl
    | some n=>rw [e] at s3; exact absurd (congrArg Prod.fst s3) (fun z=>nomatch z)
theorem WInv.line {w:W}{p:Piece} (I:WInv w) (g:Gen p) (ht:p.isToken=true) (hz:w.toks ≠ []):WInv (W.write { w with oq:=none } [LINE] p):=by
  obtain ⟨A,a1,a2,a3⟩:=cut_between3 g (between:=[LINE]) (.inr (.inr rfl))
  refine I.step (oq:=none) g ht a1 a2 a3 (fun e=>absurd e hz) (bd_pre (.inr (.inr rfl))) (bd_quote g (.inr (.inr rfl))) (stays_line p.text _ w.text (Nat.le_refl _)) (fun k h=>nomatch h) fun r hr hc=>?_
  exact .inl (List.mem_append_right _ (by simp))
theorem WInv.put {w:W}{p:Piece} (I:WInv w) (g:Gen p) (ht:p.isToken=true):WInv (w.put p)∧(w.put p).toks=w.toks ++ [p]∧(w.put p).text=joined w.text w.toks p:=by
  have t1:=tokens_between g ht (between:=[]) (.inl rfl)
  have t2:=tokens_between g ht (between:=[BLANK]) (.inr rfl)
  have f1:=I.fits g ht (between:=[]) (.inl rfl)
  have f2:=I.fits g ht (between:=[BLANK]) (.inr rfl)
  have g1:=fits_stays I.nocomm I.toks t1
  have g2:=fits_stays I.nocomm I.toks t2
  have z0:w.toks=[]->Stays ([] ++ p.text) w.text:=fun e=>by rw [I.empty e]; exact stays_nil _
  unfold W.put joined
  by_cases h1:Stays ([] ++ p.text) w.text
  · rw [if_pos (f1.mpr h1),if_pos (show tokenPieces (cut (w.text ++ p.text))=w.toks ++ [p] from g1.mpr h1)]
    exact ⟨I.yes g ht (.inl rfl) (fun _=>rfl) h1,rfl,rfl⟩
  · rw [if_neg (fun e=>h1 (f1.mp e)),if_neg (show ¬ tokenPieces (cut (w.text ++ p.text))=w.toks ++ [p] from fun e=>h1 (g1.mp e))]
    have hz:w.toks ≠ []:=fun e=>h1 (z0 e)
    by_cases h2:Stays ([BLANK] ++ p.text) w.text
    · rw [if_pos (f2.mpr h2),if_pos (show tokenPieces (cut (w.text ++ BLANK :: p.text))=w.toks ++ [p] from g2.mpr h2)]
      exact ⟨I.yes g ht (.inr rfl) (fun e=>absurd e hz) h2,rfl,rfl⟩
    · rw [if_neg (fun e=>h2 (f2.mp e)),if_neg (show ¬ tokenPieces (cut (w.text ++ BLANK :: p.text))=w.toks ++ [p] from fun e=>h2 (g2.mp e))]
      exact ⟨I.line g ht hz,rfl,rfl⟩
theorem spacedFrom_put : ∀ (l:List Piece) (w:W),WInv w->(∀ p ∈ l,Gen p∧p.isToken=true)->spacedFrom w.text w.toks l=(l.foldl W.put w).text∧WInv (l.foldl W.put w)
  | [],w,I,_=>⟨rfl,I⟩
  | p :: l,w,I,h=>by
    obtain ⟨g,ht⟩:=h p List.mem_cons_self
    obtain ⟨I',e1,e2⟩:=I.put g ht
    rw [spacedFrom,← e1,← e2,List.foldl_cons]
    exact spacedFrom_put l (w.put p) I' fun q hq=>h q (List.mem_cons_of_mem _ hq)
theorem spaced_put (l:List Piece) (h:∀ p ∈ l,Gen p):spaced l=((tokenPieces l).foldl W.put W.start).text:=by
  unfold spaced
  refine (spacedFrom_put (tokenPieces l) W.start WInv.start fun p hp=>?_).1
  have:=List.mem_filter.mp hp
  exact ⟨h p this.1,this.2⟩
end MC
end
section
namespace MC
open Vafmta
def LineNext (r:Bytes):Prop:=∀ c s,r=c :: s->c=LINE
def CL : List Piece->Bytes->Prop
  | [],_=>True
  | p :: l,z=>(p.kind = .comment->LineNext (bytesOf l ++ z))∧CL l z
theorem bytesOf_cons (p:Piece) (l:List Piece):bytesOf (p :: l)=p.text ++ bytesOf l:=rfl
theorem bytesOf_append (l m:List Piece):bytesOf (l ++ m)=bytesOf l ++ bytesOf m:=by
  unfold bytesOf
  rw [List.flatMap_append]
theorem gen_blank : Gen ⟨.blank,[BLANK]⟩:=⟨BLANK,[],by unfold head; rw [kind_blank]; rfl⟩
theorem gen_comment (r:Bytes):Gen ⟨.comment,HASH :: r.takeWhile fun b=>b != LINE⟩:=⟨HASH,r,by
  unfold head
  rw [kind_hash]
  simp only [Nat.add_comm 1,List.take_succ_cons,take_takeWhile_len]⟩
theorem bytes_replicate (k:Nat):bytesOf (List.replicate k ⟨.blank,[BLANK]⟩)=List.replicate k BLANK:=by
  induction k with
  | zero=>rfl
  | succ k ih=>rw [List.replicate_succ,bytesOf_cons,ih]; rfl
theorem takeWhile_blank (t:Bytes):(t.takeWhile fun b=>b == BLANK)=List.replicate (t.takeWhile fun b=>b == BLANK).length BLANK:=by
  induction t with
  | nil=>rfl
  | cons c r ih =>
    rw [List.takeWhile_cons]
    split
    · rename_i h
      have e:c=BLANK:=eq_of_beq h
      rw [List.length_cons,List.replicate_succ,← ih,e]
    · rfl
theorem commentBehind_bytes (t:Bytes):t=bytesOf (commentBehind t) ++ t.drop (sizeOf_ (commentBehind t)):=by
  have key:∃ m,t=bytesOf (commentBehind t) ++ m:=by
    unfold commentBehind
    simp only
    split
    · rename_i c r hd
      split
      · rename_i hc
        subst hc
        refine ⟨r.dropWhile fun b=>b != LINE,?_⟩
        rw [bytesOf_append,bytes_replicate,← takeWhile_blank,bytesOf_cons]
        show t=_ ++ (HASH :: (r.takeWhile fun b=>b != LINE) ++ []) ++ _
        rw [List.append_nil,List.append_assoc,List.cons_append,List.takeWhile_append_dropWhile,← hd,drop_takeWhile]
        exact List.takeWhile_append_dropWhile.symm
      · exact ⟨t,rfl⟩
    · exact ⟨t,rfl⟩
  obtain ⟨m,hm⟩:=key
  unfold sizeOf_
  generalize bytesOf (commentBehind t)=z at hm ⊢
  subst hm
  rw [List.drop_left]
theorem commentBehind_gen (t:Bytes):∀ p ∈ commentBehind t,Gen p:=by
  unfold commentBehind
  simp only
  split
  · rename_i c r hd
    split
    · rename_i hc
      intro p hp
      subst hc
      rcases List.mem_append.mp hp with h | h
      · rw [List.eq_of_mem_replicate h]; exact gen_blank
      · rw [List.mem_singleton.mp h]; exact gen_comment r
    · intro p hp; cases hp
  · intro p hp; cases hp
structure One (t:Bytes) (x:Stretch × Bytes × Bool):Prop where
  bytes:t=bytesOf x.1 ++ x.2.1
  gen:∀ p ∈ x.1,Gen p
  pos:x.2.2=true->x.1 ≠ []
  tail:x.2.2=false->x.2.1=[]
theorem gen_head (c:UInt8) (r:Bytes):Gen (head c r):=⟨c,r,rfl⟩
theorem one_of : ∀ (f:Nat) (t:Bytes),t.length < f->One t (oneStretch f t)
  | 0,t,h=>by omega
  | f + 1,[],_=>⟨rfl,fun p hp=>(by cases hp),fun h=>(by cases h),fun _=>rfl⟩
  | f + 1,c :: r,h=>by
    have hl:=rest_lt c r
    have hr:rest c r=(c :: r).drop (firstOf c r).2:=rfl
    have ih:=one_of f (rest c r) (by simp at h hl; omega)
    have e:oneStretch (f + 1) (c :: r)=if isSemi (head c r) then (let b:=commentBehind (rest c r); (head c r :: b,(rest c r).drop (sizeOf_ b),true)) else (let x:=oneStretch f (rest c r); (head c r :: x.1,x.2)):=by
      rw [oneStretch]
      rfl
    rw [e]
    split
    · refine ⟨?_,?_,fun _=>List.cons_ne_nil _ _,fun h=>(by cases h)⟩
      · show c :: r=bytesOf (head c r :: commentBehind (rest c r)) ++ _
        rw [bytesOf_cons,List.append_assoc,← commentBehind_bytes]
        exact (head_rest c r).symm
      · intro p hp
        rcases List.mem_cons.mp hp with h | h
        · rw [h]; exact gen_head c r
        · exact commentBehind_gen _ p h
    · refine ⟨?_,?_,fun _=>List.cons_ne_nil _ _,ih.tail⟩
      · show c :: r=bytesOf (head c r :: (oneStretch f (rest c r)).1) ++ _
        rw [bytesOf_cons,List.append_assoc,← ih.bytes]
        exact (head_rest c r).symm
      · intro p hp
        rcases List.mem_cons.mp hp with h | h
        · rw [h]; exact gen_head c r
        · exact ih.gen p h
theorem oneStretch_cons (f:Nat) (c:UInt8) (r:Bytes):oneStretch (f + 1) (c :: r)=if isSemi (head c r) then (head c r :: commentBehind (rest c r),(rest c r).drop (sizeOf_ (commentBehind (rest c r))),true) else (head c r :: (oneStretch f (rest c r)).1,(oneStretch f (rest c r)).2):=by
  rw [oneStretch]
  rfl
theorem oneStretch_fuel : ∀ (f g:Nat) (t:Bytes),t.length < f->t.length < g->oneStretch f t=oneStretch g t
  | 0,_,t,h,_=>by omega
  | _,0,t,_,h=>by omega
  | f + 1,g + 1,[],_,_=>rfl
  | f + 1,g + 1,c :: r,hf,hg=>by
    have hl:=rest_lt c r
    rw [oneStretch_cons,oneStretch_cons,oneStretch_fuel f g (rest c r) (by simp at hf hl; omega) (by simp at hg hl; omega)]
theorem rest_hash (r:Bytes):LineNext (rest HASH r):=by
  intro c s h
  unfold rest at h
  rw [kind_hash] at h
  simp only [Nat.add_comm 1,List.drop_succ_cons,drop_takeWhile] at h
  have:=List.head?_dropWhile_not (p:=fun b=>b != LINE) r
  rw [h] at this
  simpa using this
theorem kind_comment {c:UInt8}{r:Bytes} (h:(head c r).kind = .comment):c=HASH:=by
  by_cases hp:Plain c
  · rcases hp with e | e | e
    · subst e; unfold head at h; rw [kind_blank] at h; cases h
    · subst e; unfold head at h; rw [kind_line] at h; cases h
    · exact e
  · exfalso
    have:=tok_of hp r
    rw [Piece.isToken,h] at this
    cases this
theorem head_line (r:Bytes):head LINE r=⟨.line,[LINE]⟩:=by
  unfold head
  rw [kind_line]
  rfl
theorem gen_line {p:Piece} (g:Gen p) {s:Bytes} (h:p.text=LINE :: s):p.kind = .line:=by
  obtain ⟨c,r,rfl⟩:=g
  have hb:=firstOf_bound c r
  have e:(head c r).text=c :: r.take ((firstOf c r).2 - 1):=by
    unfold head
    simp only
    conv=>lhs; rw [show (firstOf c r).2=((firstOf c r).2 - 1) + 1 by omega]
    rw [List.take_succ_cons]
  rw [e] at h
  have:=(List.cons.inj h).1
  subst this
  rw [head_line]
theorem CL.append : ∀ {l m:List Piece}{z:Bytes},CL (l ++ m) z ↔ CL l (bytesOf m ++ z)∧CL m z
  | [],m,z=>⟨fun h=>⟨trivial,h⟩,fun h=>h.2⟩
  | p :: l,m,z=>by
    rw [List.cons_append]
    show (_∧CL (l ++ m) z) ↔ (_∧CL l _)∧_
    rw [CL.append,bytesOf_append,List.append_assoc]
    constructor
    · rintro ⟨h1,h2,h3⟩; exact ⟨⟨h1,h2⟩,h3⟩
    · rintro ⟨⟨h1,h2⟩,h3⟩; exact ⟨h1,h2,h3⟩
theorem CL.next {z y:Bytes} (h0:LineNext z->LineNext y):∀ {l:List Piece},(∀ p ∈ l,Gen p)->CL l z->CL l y
  | [],_,_=>trivial
  | [p],g,h=>⟨fun e=>by
      have:=h.1 e
      rw [show bytesOf ([]:List Piece)=[] from rfl,List.nil_append] at this ⊢
      exact h0 this,trivial⟩
  | p :: q :: l,g,h=>by
    refine ⟨fun e=>?_,CL.next h0 (fun x hx=>g x (List.mem_cons_of_mem _ hx)) h.2⟩
    have:=h.1 e
    obtain ⟨c,s,hq⟩:=gen_start (g q (List.mem_cons_of_mem _ List.mem_cons_self))
    rw [bytesOf_cons,hq] at this ⊢
    intro c' s' e'
    simp only [List.cons_append] at this e'
    have e1:=(List.cons.inj e').1
    rw [← e1]
    exact this c _ rfl
theorem commentBehind_cl (t:Bytes):CL (commentBehind t) (t.drop (sizeOf_ (commentBehind t))):=by
  have hb:=commentBehind_bytes t
  unfold commentBehind at hb ⊢
  simp only at hb ⊢
  split
  · rename_i c r hd
    rw [hd] at hb
    simp only at hb
    split
    · rename_i hc
      rw [if_pos hc] at hb
      subst hc
      have aux:∀ (k:Nat) (l:List Piece) (z:Bytes),CL l z->CL (List.replicate k ⟨.blank,[BLANK]⟩ ++ l) z:=by
        intro k
        induction k with
        | zero=>intro l z h; exact h
        | succ k ih=>intro l z h; exact ⟨fun e=>(by cases e),ih l z h⟩
      refine aux _ _ _ ⟨fun _=>?_,trivial⟩
      rw [show bytesOf ([]:List Piece)=[] from rfl,List.nil_append]
      generalize List.drop _ t=z at hb ⊢
      rw [bytesOf_append,bytes_replicate,← takeWhile_blank,bytesOf_cons] at hb
      have h2:t=(t.takeWhile fun b=>b == BLANK) ++ (HASH :: r):=by
        conv=>lhs; rw [← List.takeWhile_append_dropWhile (p:=fun b=>b == BLANK) (l:=t)]
        rw [← hd,drop_takeWhile]
      have h3:(t.takeWhile fun b=>b == BLANK) ++ (HASH :: r)=(t.takeWhile fun b=>b == BLANK) ++ ((HASH :: (r.takeWhile fun b=>b != LINE) ++ []) ++ z):=by
        rw [← List.append_assoc,← h2]; exact hb
      have h4:=List.append_cancel_left h3
      rw [List.append_nil,List.cons_append] at h4
      have h5:=(List.cons.inj h4).2
      have h6:(r.takeWhile fun b=>b != LINE) ++ (r.dropWhile fun b=>b != LINE)=(r.takeWhile fun b=>b != LINE) ++ z:=by
        rw [List.takeWhile_append_dropWhile]; exact h5
      have h7:=List.append_cancel_left h6
      intro c s e
      have:=List.head?_dropWhile_not (p:=fun b=>b != LINE) r
      rw [h7,e] at this
      simpa using this
    · trivial
  · trivial
theorem one_cl : ∀ (f:Nat) (t:Bytes),t.length < f->CL (oneStretch f t).1 (oneStretch f t).2.1
  | 0,t,h=>by omega
  | f + 1,[],_=>trivial
  | f + 1,c :: r,h=>by
    have hl:=rest_lt c r
    have ih:=one_cl f (rest c r) (by simp at h hl; omega)
    have io:=one_of f (rest c r) (by simp at h hl; omega)
    rw [oneStretch_cons]
    have hc:∀ l z,rest c r=bytesOf l ++ z->(head c r).kind = .comment->LineNext (bytesOf l ++ z):=by
      intro l z e hk
      have:=kind_comment hk
      subst this
      rw [← e]
      exact rest_hash r
    split
    · exact ⟨hc _ _ (commentBehind_bytes _),commentBehind_cl _⟩
    · exact ⟨hc _ _ io.bytes,ih⟩
structure Good (t:Bytes) (ss:List Stretch):Prop where
  bytes:bytesOf ss.flatten=t
  gen:∀ p ∈ ss.flatten,Gen p
  cl:CL ss.flatten []
  ne:ss ≠ []
  pos:∀ s ∈ ss.dropLast,s ≠ []
theorem stretchesFrom_good : ∀ (f:Nat) (t:Bytes),t.length < f->Good t (stretchesFrom f t)
  | 0,t,h=>by omega
  | f + 1,t,h=>by
    rw [stretchesFrom]
    have io:=one_of (t.length + 1) t (by omega)
    have ic:=one_cl (t.length + 1) t (by omega)
    generalize oneStretch (t.length + 1) t=x at io ic ⊢
    obtain ⟨s,r,b⟩:=x
    show Good t (if b=true then s :: stretchesFrom f r else [s])
    have ic:CL s r:=ic
    cases b with
    | false =>
      rw [if_neg (by decide)]
      have hr:r=[]:=io.tail rfl
      subst hr
      refine ⟨?_,?_,?_,List.cons_ne_nil _ _,fun s' hs=>by cases hs⟩
      · rw [List.flatten_cons,List.flatten_nil,List.append_nil]
        have:=io.bytes
        simp only [List.append_nil] at this
        exact this.symm
      · rw [List.flatten_cons,List.flatten_nil,List.append_nil]; exact io.gen
      · rw [List.flatten_cons,List.flatten_nil,List.append_nil]; exact ic
    | true =>
      rw [if_pos rfl]
      have hs:=io.pos rfl
      have hlt:r.length < t.length:=by
        have e:=congrArg List.length io.bytes
        simp only [List.length_append] at e
        have:0 < (bytesOf s).length:=by
          cases s with
          | nil=>exact absurd rfl hs
          | cons p l =>
            obtain ⟨c,z,hz⟩:=gen_start (io.gen p List.mem_cons_self)
            rw [bytesOf_cons,hz]
            simp
        omega
      have ih:=stretchesFrom_good f r (by omega)
      refine ⟨?_,?_,?_,List.cons_ne_nil _ _,?_⟩
      · rw [List.flatten_cons,bytesOf_append,ih.bytes]; exact io.bytes.symm
      · intro p hp
        rw [List.flatten_cons] at hp
        rcases List.mem_append.mp hp with h | h
        · exact io.gen p h
        · exact ih.gen p h
      · rw [List.flatten_cons]
        refine CL.append.mpr ⟨?_,ih.cl⟩
        rw [ih.bytes,List.append_nil]
        exact ic
      · intro s' hs'
        rw [List.dropLast_cons_of_ne_nil ih.ne] at hs'
        rcases List.mem_cons.mp hs' with h | h
        · rw [h]; exact hs
        · exact ih.pos s' h
theorem stretchesOf_good (t:Bytes):Good t (stretchesOf t):=stretchesFrom_good _ t (Nat.lt_succ_self _)
end MC
end
section
namespace MC
open Vafmta
def sz (ss:List Stretch) (k:Nat):Nat:=(bytesOf (ss.take k).flatten).length
theorem sz_zero (ss:List Stretch):sz ss 0=0:=by unfold sz; rw [List.take_zero]; rfl
theorem sz_cons (s:Stretch) (ss:List Stretch) (k:Nat):sz (s :: ss) (k + 1)=sizeOf_ s + sz ss k:=by
  unfold sz sizeOf_
  rw [List.take_succ_cons,List.flatten_cons,bytesOf_append,List.length_append]
theorem sz_add (ss:List Stretch) (k j:Nat):sz ss (k + j)=sz ss k + sz (ss.drop k) j:=by
  unfold sz
  rw [List.take_add,List.flatten_append,bytesOf_append,List.length_append]
theorem sz_succ {ss:List Stretch}{k:Nat}{s:Stretch} (h:ss[k]?=some s):sz ss (k + 1)=sz ss k + sizeOf_ s:=by
  rw [sz_add]
  have:ss.drop k=s :: ss.drop (k + 1):=by
    obtain ⟨hlt,e⟩:=List.getElem?_eq_some_iff.mp h
    rw [List.drop_eq_getElem_cons hlt,e]
  rw [this,sz_cons,sz_zero,Nat.add_zero]
theorem sz_mono {ss:List Stretch}{i j:Nat} (h:i ≤ j):sz ss i ≤ sz ss j:=by
  obtain ⟨d,rfl⟩:=Nat.le.dest h
  rw [sz_add]
  omega
theorem size_pos {s:Stretch} (g:∀ p ∈ s,Gen p) (h:s ≠ []):0 < sizeOf_ s:=by
  unfold sizeOf_
  cases s with
  | nil=>exact absurd rfl h
  | cons p l =>
    obtain ⟨c,z,hz⟩:=gen_start (g p List.mem_cons_self)
    rw [bytesOf_cons,hz]
    simp
theorem Good.size {t:Bytes}{ss:List Stretch} (h:Good t ss) {j:Nat}{s:Stretch} (e:ss[j]?=some s) (hj:j + 1 < ss.length):0 < sizeOf_ s:=by
  have hm:s ∈ ss.dropLast:=by
    have:ss.dropLast[j]?=some s:=by
      rw [List.getElem?_dropLast,if_pos (by omega)]
      exact e
    exact List.mem_of_getElem? this
  refine size_pos (fun p hp=>h.gen p ?_) (h.pos s hm)
  exact List.mem_flatten.mpr ⟨s,List.mem_of_getElem? e,hp⟩
theorem Good.lt {t:Bytes}{ss:List Stretch} (h:Good t ss) {i j:Nat} (hij:i < j) (hj:j < ss.length):sz ss i < sz ss j:=by
  have hi:i < ss.length:=by omega
  have:=h.size (List.getElem?_eq_getElem hi) (by omega)
  have e:=sz_succ (List.getElem?_eq_getElem hi)
  have:=sz_mono (ss:=ss) (show i + 1 ≤ j from hij)
  omega
theorem before_is (place:Nat):∀ (n:Nat) (ss:List Stretch),∃ k,k ≤ ss.length∧(before place n ss).1=ss.take k∧(before place n ss).2.1=n + sz ss k∧(before place n ss).2.2=ss.drop k ∧
    (∀ j,j < k->n + sz ss (j + 1) < place)∧(k < ss.length->place ≤ n + sz ss (k + 1))
  | n,[]=>⟨0,Nat.le_refl _,rfl,by rw [sz_zero]; rfl,rfl,fun j h=>by omega,fun h=>by simp at h⟩
  | n,s :: r=>by
    rw [before]
    by_cases h:n + sizeOf_ s < place
    · rw [if_pos h]
      obtain ⟨k,h0,h1,h2,h3,h4,h5⟩:=before_is place (n + sizeOf_ s) r
      refine ⟨k + 1,by simp; omega,?_,?_,?_,?_,?_⟩
      · show s :: (before place (n + sizeOf_ s) r).1=_
        rw [h1]; rfl
      · show (before place (n + sizeOf_ s) r).2.1=_
        rw [h2,sz_cons]; omega
      · show (before place (n + sizeOf_ s) r).2.2=_
        rw [h3]; rfl
      · intro j hj
        rw [sz_cons]
        cases j with
        | zero=>rw [sz_zero]; exact h
        | succ j=>have:=h4 j (by omega); omega
      · intro hk
        rw [sz_cons]
        have:=h5 (by simp at hk; omega)
        omega
    · rw [if_neg h]
      refine ⟨0,Nat.zero_le _,rfl,by rw [sz_zero]; rfl,rfl,fun j h=>by omega,fun _=>?_⟩
      rw [sz_cons,sz_zero]
      omega
theorem behind_iff (place:Nat):∀ (ss:List Stretch) (n:Nat) (r:List Stretch),(∀ j s,ss[j]?=some s->j + 1 < ss.length->0 < sizeOf_ s)->(Vafmta.behind place n ss=some r ↔ ∃ j,j + 1 < ss.length∧n + sz ss (j + 1)=place∧r=ss.drop (j + 1))
  | [],n,r,_=>by
    rw [Vafmta.behind]
    exact ⟨fun h=>(by cases h),fun ⟨j,h,_⟩=>(by simp at h)⟩
  | [s],n,r,_=>by
    rw [Vafmta.behind]
    exact ⟨fun h=>(by cases h),fun ⟨j,h,_⟩=>(by simp at h)⟩
  | s :: t :: l,n,r,hp=>by
    rw [Vafmta.behind]
    have hs:=hp 0 s rfl (by simp)
    by_cases h:n + sizeOf_ s=place
    · rw [if_pos h]
      constructor
      · intro e
        refine ⟨0,by simp,?_,(Option.some.inj e).symm⟩
        rw [sz_cons,sz_zero]; omega
      · rintro ⟨j,h1,h2,h3⟩
        cases j with
        | zero=>rw [h3]; rfl
        | succ j =>
          exfalso
          rw [sz_cons,sz_cons] at h2
          have:=hp 1 t rfl (by simp at h1 ⊢; omega)
          omega
    · rw [if_neg h,behind_iff place (t :: l) (n + sizeOf_ s) r (fun j s' e h'=>hp (j + 1) s' e (by simp at h' ⊢; omega))]
      constructor
      · rintro ⟨j,h1,h2,h3⟩
        refine ⟨j + 1,by simp at h1 ⊢; omega,?_,h3⟩
        rw [sz_cons]; omega
      · rintro ⟨j,h1,h2,h3⟩
        cases j with
        | zero =>
          exfalso
          rw [sz_cons,sz_zero] at h2
          omega
        | succ j =>
          refine ⟨j,by simp at h1 ⊢; omega,?_,h3⟩
          rw [sz_cons] at h2; omega
def goOn (shift:Int) (least oldAt:Nat) (old:List Stretch) (e:Nat):Option (List Stretch) :=
  if least ≤ e∧0 ≤ (e:Int) - shift then Vafmta.behind ((e:Int) - shift).toNat oldAt old else none
def fresh (on:Nat->Option (List Stretch)):Nat->Nat->Bytes->List Stretch × Bool
  | 0,_,_=>([],false)
  | f + 1,place,t =>
    if (oneStretch (t.length + 1) t).2.2=false then ([(oneStretch (t.length + 1) t).1],false)
    else if (on (place + sizeOf_ (oneStretch (t.length + 1) t).1)).isSome then ([(oneStretch (t.length + 1) t).1],true)
    else ((oneStretch (t.length + 1) t).1 :: (fresh on f (place + sizeOf_ (oneStretch (t.length + 1) t).1) (oneStretch (t.length + 1) t).2.1).1,(fresh on f (place + sizeOf_ (oneStretch (t.length + 1) t).1) (oneStretch (t.length + 1) t).2.1).2)
def total (ss:List Stretch):Nat:=(bytesOf ss.flatten).length
theorem total_cons (s:Stretch) (ss:List Stretch):total (s :: ss)=sizeOf_ s + total ss:=by
  unfold total sizeOf_
  rw [List.flatten_cons,bytesOf_append,List.length_append]
theorem total_nil : total []=0:=rfl
theorem sz_total (ss:List Stretch) (k:Nat):sz ss k=total (ss.take k):=rfl
theorem resume_fresh (shift:Int) (least oldAt:Nat) (old:List Stretch):∀ (f place:Nat) (t:Bytes),
    resume shift least oldAt old f place t=((fresh (goOn shift least oldAt old) f place t).1 ++ (if (fresh (goOn shift least oldAt old) f place t).2=true then ((goOn shift least oldAt old) (place + total (fresh (goOn shift least oldAt old) f place t).1)).getD [] else []),total (fresh (goOn shift least oldAt old) f place t).1)
  | 0,place,t=>rfl
  | f + 1,place,t=>by
    rw [resume,fresh]
    simp only
    generalize oneStretch (t.length + 1) t=x
    by_cases h:x.2.2=false
    · rw [if_pos h,if_pos h]
      simp only [Bool.false_eq_true,if_false,List.append_nil,total_cons,total_nil,Nat.add_zero]
    · rw [if_neg h,if_neg h]
      show (match goOn shift least oldAt old (place + sizeOf_ x.1) with
        | some r=>(x.1 :: r,sizeOf_ x.1)
        | none=>_)=_
      cases e:goOn shift least oldAt old (place + sizeOf_ x.1) with
      | some r =>
        simp only [Option.isSome_some,if_true,total_cons,total_nil,Nat.add_zero,e,Option.getD_some,List.cons_append,List.nil_append]
      | none =>
        simp only [Option.isSome_none,Bool.false_eq_true,if_false]
        rw [resume_fresh shift least oldAt old f (place + sizeOf_ x.1) x.2.1]
        simp only [total_cons,List.cons_append,Nat.add_assoc]
theorem lineStart_le (t:Bytes) (n:Nat):lineStart t n ≤ n:=by unfold lineStart; omega
theorem edited_len {t new:Bytes}{a b:Nat} (h1:a ≤ b) (h2:b ≤ t.length):(edited t a b new).length + (b - a)=t.length + new.length:=by
  unfold edited
  simp only [List.length_append,List.length_take,List.length_drop]
  omega
theorem edited_take {t new:Bytes}{a b k:Nat} (h2:a ≤ t.length) (hk:k ≤ a):(edited t a b new).take k=t.take k:=by
  unfold edited
  rw [List.take_append_of_le_length (by rw [List.length_take]; omega),List.take_take,Nat.min_eq_left hk]
theorem edited_drop {t new:Bytes}{a b d:Nat} (h1:a ≤ b) (h2:b ≤ t.length):(edited t a b new).drop (a + new.length + d)=t.drop (b + d):=by
  unfold edited
  rw [← List.append_assoc]
  have:(t.take a ++ new).length=a + new.length:=by simp only [List.length_append,List.length_take]; omega
  rw [← this,List.drop_append,List.drop_eq_nil_of_le (by omega),List.nil_append,List.drop_drop]
  congr 1
  omega
theorem goOn_iff {t new:Bytes}{ss:List Stretch}{a b k:Nat} (G:Good t ss) (h1:a ≤ b) (hk:k ≤ ss.length) (hlt:∀ j,j < k->sz ss (j + 1) < lineStart t a) (e:Nat) (r:List Stretch) :
    goOn ((new.length:Int) - ((b - a:Nat):Int)) (a + new.length) (sz ss k) (ss.drop k) e=some r ↔
      ∃ j,j + 1 < ss.length∧b ≤ sz ss (j + 1)∧(e:Int)=(sz ss (j + 1):Int) + ((new.length:Int) - ((b - a:Nat):Int))∧r=ss.drop (j + 1):=by
  have hb:=behind_iff ((e:Int) - ((new.length:Int) - ((b - a:Nat):Int))).toNat (ss.drop k) (sz ss k) r (fun j s hs hj=>by
    rw [List.getElem?_drop] at hs
    exact G.size hs (by rw [List.length_drop] at hj; omega))
  unfold goOn
  constructor
  · intro h
    split at h
    · rename_i hc
      obtain ⟨j,q1,q2,q3⟩:=hb.mp h
      rw [List.length_drop] at q1
      have es:sz ss k + sz (ss.drop k) (j + 1)=sz ss (k + j + 1):=(by rw [Nat.add_assoc,sz_add ss k (j + 1)])
      refine ⟨k + j,by omega,by omega,by omega,?_⟩
      rw [q3,List.drop_drop]
      rfl
    · cases h
  · rintro ⟨j,q1,q2,q3,q4⟩
    have hjk:k ≤ j:=by
      rcases Nat.lt_or_ge j k with h | h
      · have:=hlt j h
        have:=lineStart_le t a
        omega
      · exact h
    rw [if_pos (by omega)]
    refine hb.mpr ⟨j - k,by rw [List.length_drop]; omega,?_,?_⟩
    · rw [← sz_add,show k + (j - k + 1)=j + 1 by omega]
      omega
    · rw [q4,List.drop_drop,show k + (j - k + 1)=j + 1 by omega]
theorem fresh_good (on:Nat->Option (List Stretch)):∀ (f place:Nat) (t:Bytes),t.length < f →
    let y:=fresh on f place t
    (∃ z,t=bytesOf y.1.flatten ++ z∧CL y.1.flatten z∧(y.2=false->z=[]))∧(∀ p ∈ y.1.flatten,Gen p)∧y.1 ≠ []∧(∀ s ∈ y.1.dropLast,s ≠ [])∧(y.2=true->(∀ s ∈ y.1,s ≠ [])∧(on (place + total y.1)).isSome=true)
  | 0,place,t,h=>by omega
  | f + 1,place,t,h=>by
    have io:=one_of (t.length + 1) t (by omega)
    have ic:=one_cl (t.length + 1) t (by omega)
    rw [fresh]
    generalize oneStretch (t.length + 1) t=x at io ic
    obtain ⟨s,r,b⟩:=x
    have ic:CL s r:=ic
    have ib:t=bytesOf s ++ r:=io.bytes
    have ig:∀ p ∈ s,Gen p:=io.gen
    simp only
    cases b with
    | false =>
      rw [if_pos rfl]
      have hr:r=[]:=io.tail rfl
      refine ⟨⟨r,?_,?_,fun _=>hr⟩,?_,List.cons_ne_nil _ _,fun s' hs=>(by cases hs),fun h=>(by cases h)⟩
      · simp only [List.flatten_cons,List.flatten_nil,List.append_nil]; exact ib
      · simp only [List.flatten_cons,List.flatten_nil,List.append_nil]; exact ic
      · simp only [List.flatten_cons,List.flatten_nil,List.append_nil]; exact ig
    | true =>
      rw [if_neg (by decide)]
      have hs:s ≠ []:=io.pos rfl
      have hp:=size_pos ig hs
      by_cases ho:(on (place + sizeOf_ s)).isSome=true
      · rw [if_pos ho]
        refine ⟨⟨r,?_,?_,fun h=>(by cases h)⟩,?_,List.cons_ne_nil _ _,fun s' hs=>(by cases hs),fun _=>⟨fun s' h=>(by rw [List.mem_singleton.mp h]; exact hs),?_⟩⟩
        · simp only [List.flatten_cons,List.flatten_nil,List.append_nil]; exact ib
        · simp only [List.flatten_cons,List.flatten_nil,List.append_nil]; exact ic
        · simp only [List.flatten_cons,List.flatten_nil,List.append_nil]; exact ig
        · rw [total_cons,total_nil]; exact ho
      · rw [if_neg ho]
        have hlt:r.length < f:=by
          have e:=congrArg List.length ib
          simp only [List.length_append] at e
          unfold sizeOf_ at hp
          omega
        have ih:=fresh_good on f (place + sizeOf_ s) r hlt
        simp only at ih
        generalize fresh on f (place + sizeOf_ s) r=y at ih
        obtain ⟨⟨z,z1,z2,z3⟩,g,ne,dl,cl⟩:=ih
        refine ⟨⟨z,?_,?_,z3⟩,?_,List.cons_ne_nil _ _,?_,fun h=>?_⟩
        · rw [List.flatten_cons,bytesOf_append,List.append_assoc,← z1]; exact ib
        · rw [List.flatten_cons]
          exact CL.append.mpr ⟨by rw [← z1]; exact ic,z2⟩
        · intro p hp
          rw [List.flatten_cons] at hp
          rcases List.mem_append.mp hp with h | h
          · exact ig p h
          · exact g p h
        · intro s' hs'
          rw [List.dropLast_cons_of_ne_nil ne] at hs'
          rcases List.mem_cons.mp hs' with h | h
          · rw [h]; exact hs
          · exact dl s' h
        · obtain ⟨c1,c2⟩:=cl h
          refine ⟨fun s' hs'=>?_,?_⟩
          · rcases List.mem_cons.mp hs' with h | h
            · rw [h]; exact hs
            · exact c1 s' h
          · rw [total_cons,← Nat.add_assoc]; exact c2
theorem Good.take_bytes {t:Bytes}{ss:List Stretch} (G:Good t ss) (k:Nat):bytesOf (ss.take k).flatten=t.take (sz ss k)∧bytesOf (ss.drop k).flatten=t.drop (sz ss k):=by
  have h:t=bytesOf (ss.take k).flatten ++ bytesOf (ss.drop k).flatten:=by
    rw [← bytesOf_append,← List.flatten_append,List.take_append_drop]; exact G.bytes.symm
  unfold sz
  generalize bytesOf (ss.take k).flatten=x at h ⊢
  generalize bytesOf (ss.drop k).flatten=y at h ⊢
  subst h
  exact ⟨(List.take_left).symm,(List.drop_left).symm⟩
theorem Good.sz_le {t:Bytes}{ss:List Stretch} (G:Good t ss) (k:Nat):sz ss k ≤ t.length:=by
  have:=congrArg List.length (G.take_bytes k).1
  rw [List.length_take] at this
  unfold sz at this ⊢
  omega
theorem recut_is {t new:Bytes}{ss:List Stretch}{a b:Nat}:∃ k,k ≤ ss.length∧(∀ j,j < k->sz ss (j + 1) < lineStart t a)∧(k < ss.length->lineStart t a ≤ sz ss (k + 1)) ∧
    recut t ss a b new=(let y:=fresh (goOn ((new.length:Int) - ((b - a:Nat):Int)) (a + new.length) (sz ss k) (ss.drop k)) ((edited t a b new).length + 1) (sz ss k) ((edited t a b new).drop (sz ss k))
      (ss.take k ++ (y.1 ++ (if y.2=true then (goOn ((new.length:Int) - ((b - a:Nat):Int)) (a + new.length) (sz ss k) (ss.drop k) (sz ss k + total y.1)).getD [] else [])),total y.1)):=by
  obtain ⟨k,h0,h1,h2,h3,h4,h5⟩:=before_is (lineStart t a) 0 ss
  rw [Nat.zero_add] at h2
  refine ⟨k,h0,fun j hj=>(by have:=h4 j hj; omega),fun hk=>(by have:=h5 hk; omega),?_⟩
  unfold recut
  simp only
  rw [h1,h2,h3,resume_fresh]
theorem drop_eq_app {α:Type}{l x y:List α} (h:l=x ++ y):l.drop x.length=y:=by rw [h,List.drop_left]
theorem recut_good {t new:Bytes}{ss:List Stretch}{a b:Nat} (G:Good t ss) (h1:a ≤ b) (h2:b ≤ t.length):Good (edited t a b new) (recut t ss a b new).1:=by
  obtain ⟨k,hk,hlt,hge,e⟩:=recut_is (t:=t) (new:=new) (ss:=ss) (a:=a) (b:=b)
  rw [e]
  simp only
  have hka:sz ss k ≤ a:=by
    cases k with
    | zero=>rw [sz_zero]; omega
    | succ k=>have:=hlt k (by omega); have:=lineStart_le t a; omega
  have hul:sz ss k ≤ (edited t a b new).length:=by
    have:=edited_len (new:=new) h1 h2
    unfold edited
    simp only [List.length_append,List.length_take]
    omega
  have F:=fresh_good (goOn ((new.length:Int) - ((b - a:Nat):Int)) (a + new.length) (sz ss k) (ss.drop k)) ((edited t a b new).length + 1) (sz ss k) ((edited t a b new).drop (sz ss k)) (by rw [List.length_drop]; omega)
  simp only at F
  generalize fresh (goOn ((new.length:Int) - ((b - a:Nat):Int)) (a + new.length) (sz ss k) (ss.drop k)) ((edited t a b new).length + 1) (sz ss k) ((edited t a b new).drop (sz ss k))=y at F
  obtain ⟨⟨z,z1,z2,z3⟩,g,ne,dl,cl⟩:=F
  have tb:=G.take_bytes k
  have ue:edited t a b new=bytesOf (ss.take k).flatten ++ (edited t a b new).drop (sz ss k):=by
    rw [tb.1,← edited_take (new:=new) (b:=b) (by omega) hka,List.take_append_drop]
  have ckeep:CL (ss.take k).flatten ((edited t a b new).drop (sz ss k)):=by
    have c0:CL (ss.take k).flatten (t.drop (sz ss k)):=by
      have:=G.cl
      rw [← List.take_append_drop k ss,List.flatten_append] at this
      have:=(CL.append.mp this).1
      rw [tb.2,List.append_nil] at this
      rw [← List.take_append_drop k ss]
      simpa using this
    cases k with
    | zero=>rw [List.take_zero]; trivial
    | succ k =>
      have hl:=hlt k (by omega)
      have hla:=lineStart_le t a
      refine CL.next (fun hn=>?_) (fun p hp=>G.gen p ?_) c0
      · have e1:(edited t a b new).drop (sz ss (k + 1))=(t.take a).drop (sz ss (k + 1)) ++ (new ++ t.drop b):=by
          unfold edited
          rw [List.drop_append_of_le_length (by rw [List.length_take]; omega)]
        have e2:t.drop (sz ss (k + 1))=(t.take a).drop (sz ss (k + 1)) ++ t.drop a:=by
          conv=>lhs; rw [← List.take_append_drop a t]
          rw [List.drop_append_of_le_length (by rw [List.length_take]; omega)]
        rw [e1]
        rw [e2] at hn
        cases e3:(t.take a).drop (sz ss (k + 1)) with
        | nil =>
          have:=congrArg List.length e3
          rw [List.length_drop,List.length_take] at this
          simp at this
          omega
        | cons c s =>
          rw [e3] at hn
          intro c' s' e'
          rw [List.cons_append] at e'
          rw [← (List.cons.inj e').1]
          exact hn c _ rfl
      · rw [List.mem_flatten] at hp ⊢
        obtain ⟨s,q1,q2⟩:=hp
        exact ⟨s,List.mem_of_mem_take q1,q2⟩
  have gkeep:∀ p ∈ (ss.take k).flatten,Gen p:=fun p hp=>G.gen p (by
    rw [List.mem_flatten] at hp ⊢
    obtain ⟨s,q1,q2⟩:=hp
    exact ⟨s,List.mem_of_mem_take q1,q2⟩)
  have kpos:∀ s ∈ ss.take k,k < ss.length->s ≠ []:=fun s hs hkl=>G.pos s (by
    obtain ⟨j,hj⟩:=List.getElem?_of_mem hs
    have hjk:j < k:=by
      rcases Nat.lt_or_ge j k with h | h
      · exact h
      · rw [List.getElem?_eq_none (by rw [List.length_take]; omega)] at hj; cases hj
    rw [List.getElem?_take_of_lt hjk] at hj
    have:ss.dropLast[j]?=some s:=by
      rw [List.getElem?_dropLast,if_pos (by omega)]
      exact hj
    exact List.mem_of_getElem? this)
  have hkl:k < ss.length:=by
    rcases Nat.lt_or_ge k ss.length with h | h
    · exact h
    · exfalso
      have hk':k=ss.length:=by omega
      cases k with
      | zero=>exact G.ne (List.length_eq_zero_iff.mp hk'.symm)
      | succ k =>
        have:=hlt k (by omega)
        have hl:=lineStart_le t a
        have:sz ss (k + 1)=t.length:=by
          rw [hk']
          unfold sz
          rw [List.take_length,G.bytes]
        omega
  have dropLast_app:∀ (l m:List Stretch),m ≠ []->(l ++ m).dropLast=l ++ m.dropLast:=fun l m h=>List.dropLast_append_of_ne_nil h
  by_cases hy:y.2=true
  · rw [if_pos hy]
    obtain ⟨c1,c2⟩:=cl hy
    obtain ⟨r,hr⟩:=Option.isSome_iff_exists.mp c2
    rw [hr,Option.getD_some]
    obtain ⟨j,q1,q2,q3,q4⟩:=(goOn_iff G h1 hk hlt _ r).mp hr
    have rb:bytesOf r.flatten=z:=by
      have zz:z=(edited t a b new).drop (sz ss k + total y.1):=by
        rw [← List.drop_drop]
        unfold total
        exact (drop_eq_app z1).symm
      rw [q4,(G.take_bytes (j + 1)).2,zz]
      have e4:sz ss k + total y.1=a + new.length + (sz ss (j + 1) - b):=by omega
      rw [e4,edited_drop h1 h2]
      congr 1
      omega
    have rne:r ≠ []:=by
      rw [q4]
      intro h
      have:=List.drop_eq_nil_iff.mp h
      omega
    refine ⟨?_,?_,?_,?_,?_⟩
    · rw [List.flatten_append,List.flatten_append,bytesOf_append,bytesOf_append,rb,← z1]
      exact ue.symm
    · intro p hp
      rw [List.flatten_append,List.flatten_append] at hp
      rcases List.mem_append.mp hp with h | h
      · exact gkeep p h
      · rcases List.mem_append.mp h with h | h
        · exact g p h
        · refine G.gen p ?_
          rw [q4] at h
          rw [List.mem_flatten] at h ⊢
          obtain ⟨s,w1,w2⟩:=h
          exact ⟨s,List.mem_of_mem_drop w1,w2⟩
    · rw [List.flatten_append,List.flatten_append]
      refine CL.append.mpr ⟨?_,CL.append.mpr ⟨?_,?_⟩⟩
      · rw [bytesOf_append,rb,List.append_nil,← z1]; exact ckeep
      · rw [rb,List.append_nil]; exact z2
      · rw [q4]
        have:=G.cl
        rw [← List.take_append_drop (j + 1) ss,List.flatten_append] at this
        exact (CL.append.mp this).2
    · intro h
      exact rne (List.append_eq_nil_iff.mp (List.append_eq_nil_iff.mp h).2).2
    · intro s hs
      rw [dropLast_app _ _ (fun h=>rne (List.append_eq_nil_iff.mp h).2),dropLast_app _ _ rne] at hs
      rcases List.mem_append.mp hs with h | h
      · exact kpos s h hkl
      · rcases List.mem_append.mp h with h | h
        · exact c1 s h
        · refine G.pos s ?_
          have e5:ss.dropLast=ss.take (j + 1) ++ r.dropLast:=by
            conv=>lhs; rw [← List.take_append_drop (j + 1) ss,← q4]
            exact dropLast_app _ _ rne
          rw [e5]
          exact List.mem_append_right _ h
  · rw [if_neg hy,List.append_nil]
    have hz:=z3 (by simpa using hy)
    subst hz
    refine ⟨?_,?_,?_,?_,?_⟩
    · rw [List.flatten_append,bytesOf_append]
      rw [List.append_nil] at z1
      rw [← z1]
      exact ue.symm
    · intro p hp
      rw [List.flatten_append] at hp
      rcases List.mem_append.mp hp with h | h
      · exact gkeep p h
      · exact g p h
    · rw [List.flatten_append]
      refine CL.append.mpr ⟨?_,z2⟩
      rw [← z1]
      exact ckeep
    · intro h
      exact ne (List.append_eq_nil_iff.mp h).2
    · intro s hs
      rw [dropLast_app _ _ ne] at hs
      rcases List.mem_append.mp hs with h | h
      · exact kpos s h hkl
      · exact dl s h
end MC
end
section
namespace MC
open Vafmta
structure RInv (s:Run) (l:List Piece):Prop where
  none:s.any=false->s.tokens=[]
  last:s.any=true->s.ends=0->(s.tokens ≠ []∧s.leads=[]) ∨ LineNext (bytesOf l)
theorem RInv.start (n:Nat) (l:List Piece):RInv ⟨n,0,false,[],[]⟩ l:=⟨fun _=>rfl,fun h=>by cases h⟩
theorem line_first {p:Piece}{l:List Piece} (g:Gen p) (h:LineNext (bytesOf (p :: l))):p.kind = .line:=by
  obtain ⟨c,s,e⟩:=gen_start g
  rw [bytesOf_cons,e,List.cons_append] at h
  have:=h c _ rfl
  subst this
  exact gen_line g e
theorem put_behind {s:Run}{p:Piece}{l:List Piece} (R:RInv s (p :: l)) (g:Gen p) (hk:p.kind = .comment) (ha:s.any=true) (he:s.ends=0):∃ t r,s.tokens=t :: r∧s.leads=[] ∧
    s.put p = { s with place:=s.place + p.text.length,tokens:={ t with behind:=some (trimmed p.text) } :: r }:=by
  rcases R.last ha he with ⟨h1,h2⟩ | h
  · cases ht:s.tokens with
    | nil=>exact absurd ht h1
    | cons t r =>
      refine ⟨t,r,rfl,h2,?_⟩
      unfold Run.put
      rw [hk]
      simp only [ht,h2,he,if_pos]
  · have:=line_first g h
    rw [hk] at this
    cases this
theorem put_lead {s:Run}{p:Piece}{l:List Piece} (R:RInv s l) (hk:p.kind = .comment) (h:¬ (s.any=true∧s.ends=0)):s.put p=s.lead p:=by
  unfold Run.put
  rw [hk]
  simp only
  cases ht:s.tokens with
  | nil=>rfl
  | cons t r =>
    cases hl:s.leads with
    | cons=>rfl
    | nil =>
      simp only
      have ha:s.any=true:=by
        cases e:s.any with
        | true=>rfl
        | false=>have:=R.none e; rw [ht] at this; cases this
      rw [if_neg (fun e=>h ⟨ha,e⟩)]
theorem put_blank {s:Run}{p:Piece} (hk:p.kind = .blank):s.put p = { s with place:=s.place + p.text.length }:=by
  unfold Run.put; rw [hk]
theorem put_line {s:Run}{p:Piece} (hk:p.kind = .line):s.put p = { s with place:=s.place + p.text.length,ends:=s.ends + 1 }:=by
  unfold Run.put; rw [hk]
theorem put_token {s:Run}{p:Piece} (ht:p.isToken=true):s.put p = { place:=s.place + p.text.length,ends:=0,any:=true,tokens:=⟨p.kind,p.text,s.place,s.gap,s.leads.reverse,none⟩ :: s.tokens,leads:=[] }:=by
  unfold Run.put
  unfold Piece.isToken at ht
  cases hk:p.kind <;> rw [hk] at ht <;> first | rfl | cases ht
theorem kinds (p:Piece):p.kind = .blank ∨ p.kind = .line ∨ p.kind = .comment ∨ p.isToken=true:=by
  unfold Piece.isToken
  cases p.kind <;> simp
theorem RInv.put {s:Run}{p:Piece}{l:List Piece} (R:RInv s (p :: l)) (g:Gen p) (c:CL (p :: l) []):RInv (s.put p) l:=by
  rcases kinds p with hk | hk | hk | hk
  · rw [put_blank hk]
    refine ⟨R.none,fun ha he=>?_⟩
    rcases R.last ha he with h | h
    · exact .inl h
    · have:=line_first g h
      rw [hk] at this
      cases this
  · rw [put_line hk]
    exact ⟨R.none,fun _ he=>by cases he⟩
  · have hc:LineNext (bytesOf l):=by
      have:=c.1 hk
      rw [List.append_nil] at this
      exact this
    by_cases h:s.any=true∧s.ends=0
    · obtain ⟨t,r,h1,h2,h3⟩:=put_behind R g hk h.1 h.2
      rw [h3]
      exact ⟨fun e=>(by rw [show s.any=false from e] at h; cases h.1),fun _ _=>.inr hc⟩
    · rw [put_lead R hk h]
      exact ⟨fun e=>(by cases e),fun _ _=>.inr hc⟩
  · rw [put_token hk]
    exact ⟨fun e=>(by cases e),fun _ _=>.inl ⟨List.cons_ne_nil _ _,rfl⟩⟩
def pieceOf (t:Token):Piece:=⟨t.kind,t.text⟩
theorem put_tokens (s:Run) (p:Piece):(s.put p).tokens.map pieceOf=(if p.isToken=true then [p] else []) ++ s.tokens.map pieceOf:=by
  rcases kinds p with hk | hk | hk | hk
  · have:p.isToken=false:=by unfold Piece.isToken; rw [hk]
    rw [put_blank hk,this]; rfl
  · have:p.isToken=false:=by unfold Piece.isToken; rw [hk]
    rw [put_line hk,this]; rfl
  · have:p.isToken=false:=by unfold Piece.isToken; rw [hk]
    rw [this]
    unfold Run.put
    rw [hk]
    simp only
    cases ht:s.tokens with
    | nil=>simp [Run.lead,ht]
    | cons t r =>
      cases hl:s.leads with
      | cons=>simp [Run.lead,ht]
      | nil =>
        simp only
        split
        · rfl
        · simp [Run.lead,ht]
  · rw [put_token hk,if_pos hk]
    rfl
theorem fold_tokens : ∀ (l:List Piece) (s:Run),(l.foldl Run.put s).tokens.map pieceOf=(tokenPieces l).reverse ++ s.tokens.map pieceOf
  | [],s=>rfl
  | p :: l,s=>by
    rw [List.foldl_cons,fold_tokens l (s.put p),put_tokens]
    unfold tokenPieces
    rw [List.filter_cons]
    split
    · rw [List.reverse_cons,List.append_assoc]
    · rfl
theorem things_pieces (l:List Piece):(thingsOf l).tokens.map pieceOf=tokenPieces l:=by
  unfold thingsOf thingsFrom Run.done
  simp only
  rw [List.map_reverse,fold_tokens,List.reverse_append,List.reverse_reverse]
  rfl
theorem things_length (l:List Piece):(thingsOf l).tokens.length=(tokenPieces l).length:=by
  rw [← things_pieces,List.length_map]
end MC
end
section
namespace MC
open Vafmta
inductive Parsed : List Int->List (List (List Int))->Prop where
  | nil:Parsed [] []
  | cons {l t:List Int}{c:List (List Int)}{cs:List (List (List Int))} (h:PyFlat.call PyVafmta.shape l=some (c,t)) (r:Parsed t cs):Parsed l (c :: cs)
theorem parsed_of : ∀ (f:Nat) (l:List Int) (cs:List (List (List Int))),PyFlat.calls PyVafmta.shape f l=some cs->Parsed l cs
  | _,[],cs,h=>by
    rw [PyFlat.calls] at h
    cases h
    exact .nil
  | 0,_ :: _,cs,h=>by rw [PyFlat.calls] at h; cases h
  | f + 1,p :: r,cs,h=>by
    rw [PyFlat.calls] at h
    cases e:PyFlat.call PyVafmta.shape (p :: r) with
    | none=>rw [e] at h; cases h
    | some x =>
      obtain ⟨c,t⟩:=x
      rw [e] at h
      simp only at h
      cases e2:PyFlat.calls PyVafmta.shape f t with
      | none=>rw [e2] at h; cases h
      | some cs' =>
        rw [e2] at h
        cases h
        exact .cons e (parsed_of f t cs' e2)
def RowAt (l row t:List Int):Prop:=∃ n:Nat,l=(n:Int) :: (row ++ t)∧row.length=n
theorem row_of {l x s:List Int} (h:PyFlat.row l=some (x,s)):RowAt l x s:=by
  cases l with
  | nil=>cases h
  | cons n r =>
    rw [PyFlat.row] at h
    split at h
    · rename_i hc
      have e:=Option.some.inj h
      have e1:r.take n.toNat=x:=congrArg Prod.fst e
      have e2:r.drop n.toNat=s:=congrArg Prod.snd e
      refine ⟨n.toNat,?_,?_⟩
      · rw [← e1,← e2,List.take_append_drop]
        congr 1
        omega
      · rw [← e1,List.length_take]
        omega
    · cases h
inductive One1 : List Int->List (List Int)->List Int->Prop where
  | load {r row t:List Int} (h:RowAt r row t):One1 (0 :: r) [[0],row] t
  | edit {a b:Int}{r row t:List Int} (h:RowAt r row t):One1 (1 :: a :: b :: r) [[1,a,b],row] t
  | n0 {p:Int}{t:List Int} (h:p=2 ∨ p=3 ∨ p=4 ∨ p=8 ∨ p=13):One1 (p :: t) [[p]] t
  | n1 {p i:Int}{t:List Int} (h:p=5 ∨ p=6 ∨ p=7 ∨ p=9 ∨ p=10):One1 (p :: i :: t) [[p,i]] t
  | offset {a b:Int}{t:List Int}:One1 (11 :: a :: b :: t) [[11,a,b]] t
  | same {r row t:List Int} (h:RowAt r row t):One1 (12 :: r) [[12],row] t
theorem rows0 {r:List Int}{xs:List (List Int)}{t:List Int} (h:PyFlat.rows 0 r=some (xs,t)):xs=[]∧t=r:=by
  rw [PyFlat.rows] at h
  cases h
  exact ⟨rfl,rfl⟩
theorem rows1 {r:List Int}{xs:List (List Int)}{t:List Int} (h:PyFlat.rows 1 r=some (xs,t)):∃ x,xs=[x]∧RowAt r x t:=by
  rw [PyFlat.rows] at h
  cases e:PyFlat.row r with
  | none=>rw [e] at h; cases h
  | some z =>
    obtain ⟨x,s⟩:=z
    rw [e] at h
    simp only [PyFlat.rows] at h
    cases h
    exact ⟨x,rfl,row_of e⟩
theorem one1_of {l t:List Int}{c:List (List Int)} (h:PyFlat.call PyVafmta.shape l=some (c,t)):One1 l c t:=by
  cases l with
  | nil=>cases h
  | cons p r =>
    rw [PyFlat.call] at h
    have key:∀ (n k:Nat),PyVafmta.shape p=some (n,k)->∃ xs,n ≤ r.length∧PyFlat.rows k (r.drop n)=some (xs,t)∧c=(p :: r.take n) :: xs:=by
      intro n k e
      rw [e] at h
      simp only at h
      split at h
      · cases h
      · rename_i hl
        cases e2:PyFlat.rows k (r.drop n) with
        | none=>rw [e2] at h; cases h
        | some z =>
          obtain ⟨xs,t'⟩:=z
          rw [e2] at h
          simp only at h
          cases h
          exact ⟨xs,by omega,rfl,rfl⟩
    have f0:PyVafmta.shape p=some (0,0)->t=r∧c=[[p]]:=by
      intro e
      obtain ⟨xs,h1,h2,h3⟩:=key 0 0 e
      obtain ⟨rfl,e4⟩:=rows0 h2
      exact ⟨e4,h3⟩
    have f1:PyVafmta.shape p=some (1,0)->∃ i,r=i :: t∧c=[[p,i]]:=by
      intro e
      obtain ⟨xs,h1,h2,h3⟩:=key 1 0 e
      obtain ⟨rfl,e4⟩:=rows0 h2
      cases r with
      | nil=>simp at h1
      | cons i r'=>exact ⟨i,by rw [e4]; rfl,h3⟩
    have f2:PyVafmta.shape p=some (2,0)->∃ i j,r=i :: j :: t∧c=[[p,i,j]]:=by
      intro e
      obtain ⟨xs,h1,h2,h3⟩:=key 2 0 e
      obtain ⟨rfl,e4⟩:=rows0 h2
      match r,h1,e4,h3 with
      | i :: j :: r',_,e4,h3=>exact ⟨i,j,by rw [e4]; rfl,h3⟩
    have g0:PyVafmta.shape p=some (0,1)->∃ x,RowAt r x t∧c=[[p],x]:=by
      intro e
      obtain ⟨xs,h1,h2,h3⟩:=key 0 1 e
      obtain ⟨x,rfl,e4⟩:=rows1 h2
      exact ⟨x,e4,h3⟩
    have g2:PyVafmta.shape p=some (2,1)->∃ i j r' x,r=i :: j :: r'∧RowAt r' x t∧c=[[p,i,j],x]:=by
      intro e
      obtain ⟨xs,h1,h2,h3⟩:=key 2 1 e
      obtain ⟨x,rfl,e4⟩:=rows1 h2
      match r,h1,e4,h3 with
      | i :: j :: r',_,e4,h3=>exact ⟨i,j,r',x,rfl,e4,h3⟩
    clear key
    by_cases p0:p=0
    · subst p0; obtain ⟨x,a,rfl⟩:=g0 rfl; exact .load a
    by_cases p1:p=1
    · subst p1; obtain ⟨i,j,r',x,rfl,a,rfl⟩:=g2 rfl; exact .edit a
    by_cases p2:p=2
    · subst p2; obtain ⟨rfl,rfl⟩:=f0 rfl; exact .n0 (by simp)
    by_cases p3:p=3
    · subst p3; obtain ⟨rfl,rfl⟩:=f0 rfl; exact .n0 (by simp)
    by_cases p4:p=4
    · subst p4; obtain ⟨rfl,rfl⟩:=f0 rfl; exact .n0 (by simp)
    by_cases p5:p=5
    · subst p5; obtain ⟨i,rfl,rfl⟩:=f1 rfl; exact .n1 (by simp)
    by_cases p6:p=6
    · subst p6; obtain ⟨i,rfl,rfl⟩:=f1 rfl; exact .n1 (by simp)
    by_cases p7:p=7
    · subst p7; obtain ⟨i,rfl,rfl⟩:=f1 rfl; exact .n1 (by simp)
    by_cases p8:p=8
    · subst p8; obtain ⟨rfl,rfl⟩:=f0 rfl; exact .n0 (by simp)
    by_cases p9:p=9
    · subst p9; obtain ⟨i,rfl,rfl⟩:=f1 rfl; exact .n1 (by simp)
    by_cases p10:p=10
    · subst p10; obtain ⟨i,rfl,rfl⟩:=f1 rfl; exact .n1 (by simp)
    by_cases p11:p=11
    · subst p11; obtain ⟨i,j,rfl,rfl⟩:=f2 rfl; exact .offset
    by_cases p12:p=12
    · subst p12; obtain ⟨x,a,rfl⟩:=g0 rfl; exact .same a
    by_cases p13:p=13
    · subst p13; obtain ⟨rfl,rfl⟩:=f0 rfl; exact .n0 (by simp)
    exfalso
    have:PyVafmta.shape p=none:=by
      unfold PyVafmta.shape
      simp only [p0,p1,p2,p3,p4,p5,p6,p7,p8,p9,p10,p11,p12,p13,if_false]
    rw [this] at h
    cases h
theorem whole_one {l t:List Int}{c:List (List Int)} (h:One1 l c t):PyVafmta.whole c=c:=by
  cases h with
  | load=>rfl
  | edit=>rfl
  | n0 h=>rcases h with rfl | rfl | rfl | rfl | rfl <;> rfl
  | n1 h=>rcases h with rfl | rfl | rfl | rfl | rfl <;> rfl
  | offset=>rfl
  | same=>rfl
theorem Parsed.whole {l:List Int}{cs:List (List (List Int))} (h:Parsed l cs):cs.map PyVafmta.whole=cs:=by
  induction h with
  | nil=>rfl
  | cons h r ih=>rw [List.map_cons,ih,whole_one (one1_of h)]
theorem asked_of {l:List Int} (h:PyVafmta.answers_asked l=true):∃ cs,Parsed l cs∧PyVafmta.answers l=PyFlat.told (PyFlat.played VafmtaNeutral.step VafmtaNeutral.start cs)∧cs.length ≤ 80∧(∀ c ∈ cs,VafmtaNeutral.asked1 c=true):=by
  unfold PyVafmta.answers_asked at h
  unfold PyVafmta.answers
  cases e:PyVafmta.calls l with
  | none=>rw [e] at h; cases h
  | some cs =>
    rw [e] at h
    simp only at h
    unfold PyVafmta.calls at e
    cases e2:PyFlat.calls PyVafmta.shape l.length l with
    | none=>rw [e2] at e; cases e
    | some cs' =>
      rw [e2] at e
      simp only at e
      have hp:=parsed_of _ _ _ e2
      rw [hp.whole] at e
      cases e
      refine ⟨_,hp,rfl,?_,?_⟩
      · have:=(Bool.and_eq_true_iff.mp h).1
        unfold PyFlat.atMost at this
        exact of_decide_eq_true this
      · have:=(Bool.and_eq_true_iff.mp h).2
        unfold VafmtaNeutral.asked at this
        exact List.all_eq_true.mp (Bool.and_eq_true_iff.mp this).1
end MC
end
section
namespace Cm
open Vafmta
def bi (b:UInt8):Int:=Int.ofNat b.toNat
theorem bi_eq (b:UInt8) (k:Nat) (hk:k < 256):bi b=(k:Int) ↔ b=UInt8.ofNat k:=by
  unfold bi
  constructor
  · intro h
    have h1:b.toNat=k:=Int.ofNat.inj h
    apply UInt8.toNat_inj.mp
    rw [h1,UInt8.toNat_ofNat',Nat.mod_eq_of_lt (by simpa using hk)]
  · intro h
    rw [h,UInt8.toNat_ofNat',Nat.mod_eq_of_lt (by simpa using hk)]
    rfl
theorem bi_inj {a b:UInt8} (h:bi a=bi b):a=b:=UInt8.toNat_inj.mp (Int.ofNat.inj h)
def lettI (i:Int):Bool:=(decide (97 ≤ i) && decide (i ≤ 122)) || ((decide (65 ≤ i) && decide (i ≤ 90)) || decide (i=95))
def digI (i:Int):Bool:=decide (48 ≤ i) && decide (i ≤ 57)
theorem bi_le (k:Nat) (hk:k < 256) (b:UInt8):decide ((k:Int) ≤ bi b)=decide (UInt8.ofNat k ≤ b):=by
  apply decide_eq_decide.mpr
  rw [UInt8.le_iff_toNat_le,UInt8.toNat_ofNat',Nat.mod_eq_of_lt (by simpa using hk)]
  unfold bi
  exact Int.ofNat_le
theorem bi_ge (k:Nat) (hk:k < 256) (b:UInt8):decide (bi b ≤ (k:Int))=decide (b ≤ UInt8.ofNat k):=by
  apply decide_eq_decide.mpr
  rw [UInt8.le_iff_toNat_le,UInt8.toNat_ofNat',Nat.mod_eq_of_lt (by simpa using hk)]
  unfold bi
  exact Int.ofNat_le
theorem let_bi (b:UInt8):lettI (bi b)=isLetter b:=by
  unfold lettI isLetter
  have h1:=bi_le 97 (by omega) b
  have h2:=bi_ge 122 (by omega) b
  have h3:=bi_le 65 (by omega) b
  have h4:=bi_ge 90 (by omega) b
  have h5:decide (bi b=95)=(b == 95):=by
    have q:=bi_eq b 95 (by omega)
    by_cases z:b=95
    · subst z; decide
    · rw [show decide (bi b=95)=false from decide_eq_false (fun e=>z (q.mp e))]
      exact (beq_eq_false_iff_ne.mpr z).symm
  rw [show decide (97 ≤ bi b)=decide (97 ≤ b) from h1,show decide (bi b ≤ 122)=decide (b ≤ 122) from h2,show decide (65 ≤ bi b)=decide (65 ≤ b) from h3,show decide (bi b ≤ 90)=decide (b ≤ 90) from h4,h5]
theorem dig_bi (b:UInt8):digI (bi b)=isDigit b:=by
  unfold digI isDigit
  have h1:=bi_le 48 (by omega) b
  have h2:=bi_ge 57 (by omega) b
  rw [show decide (48 ≤ bi b)=decide (48 ≤ b) from h1,show decide (bi b ≤ 57)=decide (b ≤ 57) from h2]
theorem drop_cons {α:Type}{t:List α}{n:Nat}{c:α} (h:t[n]?=some c):t.drop n=c :: t.drop (n + 1):=by
  obtain ⟨hlt,e⟩:=List.getElem?_eq_some_iff.mp h
  rw [List.drop_eq_getElem_cons hlt,e]
theorem get_of_drop {α:Type}{t:List α}{n:Nat}{c:α}{r:List α} (h:t.drop n=c :: r):t[n]?=some c∧r=t.drop (n + 1):=by
  have hlt:n < t.length:=by
    rcases Nat.lt_or_ge n t.length with q | q
    · exact q
    · rw [List.drop_eq_nil_of_le q] at h; cases h
  rw [List.drop_eq_getElem_cons hlt] at h
  obtain ⟨h1,h2⟩:=List.cons.inj h
  exact ⟨by rw [List.getElem?_eq_getElem hlt,h1],h2.symm⟩
theorem drop_lt {α:Type}{t:List α}{n:Nat} (h:n < t.length):∃ c,t[n]?=some c∧t.drop n=c :: t.drop (n + 1):=⟨_,List.getElem?_eq_getElem h,List.drop_eq_getElem_cons h⟩
def runEnd (p:UInt8->Bool) (t:Bytes) (n:Nat):Nat:=n + ((t.drop n).takeWhile p).length
theorem runEnd_step {p:UInt8->Bool}{t:Bytes}{n:Nat}{c:UInt8} (h:t[n]?=some c) (hp:p c=true):runEnd p t n=runEnd p t (n + 1):=by
  unfold runEnd
  rw [drop_cons h,List.takeWhile_cons,if_pos hp,List.length_cons]
  omega
theorem runEnd_stop {p:UInt8->Bool}{t:Bytes}{n:Nat}{c:UInt8} (h:t[n]?=some c) (hp:p c=false):runEnd p t n=n:=by
  unfold runEnd
  rw [drop_cons h,List.takeWhile_cons,if_neg (by rw [hp]; decide)]
  rfl
theorem runEnd_end {p:UInt8->Bool}{t:Bytes}{n:Nat} (h:t.length ≤ n):runEnd p t n=n:=by
  unfold runEnd
  rw [List.drop_eq_nil_of_le h]
  rfl
theorem runEnd_le {p:UInt8->Bool}{t:Bytes}{n:Nat} (h:n ≤ t.length):runEnd p t n ≤ t.length:=by
  unfold runEnd
  have:=MC.takeWhile_length_le p (t.drop n)
  rw [List.length_drop] at this
  omega
def goesOn (t:Bytes) (n:Nat):Bool:=match t[n]? with
  | some c=>c != LINE
  | none=>false
theorem goesOn_lt {t:Bytes}{n:Nat} (h:goesOn t n=true):∃ c,t[n]?=some c∧c ≠ LINE:=by
  unfold goesOn at h
  cases e:t[n]? with
  | none=>rw [e] at h; cases h
  | some c =>
    rw [e] at h
    refine ⟨c,rfl,fun q=>?_⟩
    subst q
    exact absurd h (by decide)
def closeAt (t:Bytes) (n:Nat):Int:=match closing (t.drop n) with
  | some k=>((n + k - 1:Nat):Int)
  | none=>-1
def stepQ (t:Bytes) (n:Nat):Nat:=if t[n]?=some BACK∧goesOn t (n + 1)=true then 2 else 1
theorem closing_not {t:Bytes}{n:Nat} (h:goesOn t n=false):closing (t.drop n)=none:=by
  unfold goesOn at h
  cases e:t[n]? with
  | none =>
    rw [List.drop_eq_nil_of_le (List.getElem?_eq_none_iff.mp e)]
    rfl
  | some c =>
    rw [e] at h
    have hc:c=LINE:=by simpa using h
    rw [drop_cons e,hc,closing.eq_def]
    rfl
theorem closing_quote_here {t:Bytes}{n:Nat} (h:t[n]?=some QUOTE):closing (t.drop n)=some 1:=by
  rw [drop_cons h,closing.eq_def]
  rfl
theorem closing_step {t:Bytes}{n:Nat}{c:UInt8} (h:t[n]?=some c) (h1:c ≠ LINE) (h2:c ≠ QUOTE):closing (t.drop n)=(closing (t.drop (n + stepQ t n))).map fun k=>k + stepQ t n:=by
  rw [drop_cons h,closing.eq_def]
  simp only
  rw [if_neg h1,if_neg h2]
  unfold stepQ
  by_cases hb:c=BACK
  · rw [if_pos hb]
    subst hb
    cases e:t[n + 1]? with
    | none =>
      have hg:goesOn t (n + 1)=false:=by unfold goesOn; rw [e]
      rw [if_neg (by rw [hg]; simp)]
      rw [List.drop_eq_nil_of_le (List.getElem?_eq_none_iff.mp e)]
      rfl
    | some d =>
      rw [drop_cons e]
      simp only
      by_cases hd:d=LINE
      · have hg:goesOn t (n + 1)=false:=by unfold goesOn; rw [e,hd]; rfl
        rw [if_pos hd,if_neg (by rw [hg]; simp),drop_cons e,hd,closing.eq_def]
        rfl
      · have hg:goesOn t (n + 1)=true:=by unfold goesOn; rw [e]; simpa using hd
        rw [if_neg hd,if_pos ⟨h,hg⟩]
  · rw [if_neg hb,if_neg (by rw [h]; intro q; exact hb (Option.some.inj q.1))]
theorem stepQ_pos (t:Bytes) (n:Nat):1 ≤ stepQ t n∧stepQ t n ≤ 2:=by unfold stepQ; split <;> omega
theorem stepQ_le {t:Bytes}{n:Nat} (h:n < t.length):n + stepQ t n ≤ t.length:=by
  unfold stepQ
  split
  · rename_i q
    obtain ⟨c,e,_⟩:=goesOn_lt q.2
    have:=(List.getElem?_eq_some_iff.mp e).1
    omega
  · omega
theorem closeAt_step {t:Bytes}{n:Nat}{c:UInt8} (h:t[n]?=some c) (h1:c ≠ LINE) (h2:c ≠ QUOTE):closeAt t n=closeAt t (n + stepQ t n)∧(closing (t.drop n)=none ↔ closing (t.drop (n + stepQ t n))=none):=by
  have e:=closing_step h h1 h2
  unfold closeAt
  rw [e]
  cases q:closing (t.drop (n + stepQ t n)) with
  | none=>exact ⟨rfl,Iff.rfl⟩
  | some k =>
    refine ⟨?_,⟨fun z=>(by cases z),fun z=>(by cases z)⟩⟩
    show ((n + (k + stepQ t n) - 1:Nat):Int)=((n + stepQ t n + k - 1:Nat):Int)
    congr 1
    omega
def digAt (t:Bytes) (n:Nat):Bool:=match t[n]? with
  | some d=>isDigit d
  | none=>false
theorem digAt_some {t:Bytes}{n:Nat}{d:UInt8} (h:t[n]?=some d):digAt t n=isDigit d:=by unfold digAt; rw [h]
theorem digAt_none {t:Bytes}{n:Nat} (h:t[n]?=none):digAt t n=false:=by unfold digAt; rw [h]
def numEnd (t:Bytes) (n:Nat):Nat :=
  if t[runEnd isDigit t n]?=some POINT∧digAt t (runEnd isDigit t n + 1)=true then runEnd isDigit t (runEnd isDigit t n + 1) else runEnd isDigit t n
theorem numEnd_is {t:Bytes}{n:Nat}{c:UInt8} (h:t[n]?=some c) (hd:isDigit c=true):numEnd t n=n + numberLength (t.drop (n + 1)):=by
  have e1:runEnd isDigit t n=n + 1 + ((t.drop (n + 1)).takeWhile isDigit).length:=by rw [runEnd_step h hd]; rfl
  unfold numEnd numberLength
  generalize hr:t.drop (n + 1)=r at e1 ⊢
  generalize hm:(r.takeWhile isDigit).length=m at e1 ⊢
  rw [e1]
  have g0:r.drop m=t.drop (n + 1 + m):=by rw [← hr,List.drop_drop]
  simp only [g0]
  cases q1:t[n + 1 + m]? with
  | none =>
    rw [if_neg (by simp),List.drop_eq_nil_of_le (List.getElem?_eq_none_iff.mp q1)]
    simp only
    omega
  | some p =>
    rw [drop_cons q1]
    cases q2:t[n + 1 + m + 1]? with
    | none =>
      rw [if_neg (by rw [digAt_none q2]; simp),List.drop_eq_nil_of_le (List.getElem?_eq_none_iff.mp q2)]
      simp only
      omega
    | some d =>
      rw [drop_cons q2,digAt_some q2]
      simp only [Option.some.injEq]
      by_cases hp:p=POINT∧isDigit d=true
      · rw [if_pos hp,if_pos hp,runEnd_step q2 hp.2]
        unfold runEnd
        omega
      · rw [if_neg hp,if_neg hp]
        omega
theorem rest_is {t:Bytes}{n:Nat}{c:UInt8} (h:t[n]?=some c):MC.rest c (t.drop (n + 1))=t.drop (n + (MC.head c (t.drop (n + 1))).text.length):=by
  rw [MC.head_len]
  unfold MC.rest
  rw [← drop_cons h,List.drop_drop]
theorem head_text {t:Bytes}{n:Nat}{c:UInt8} (h:t[n]?=some c):(MC.head c (t.drop (n + 1))).text=(t.drop n).take (MC.head c (t.drop (n + 1))).text.length:=by
  rw [MC.head_len]
  unfold MC.head
  rw [← drop_cons h]
theorem head_le {t:Bytes}{n:Nat}{c:UInt8} (h:t[n]?=some c):n + (MC.head c (t.drop (n + 1))).text.length ≤ t.length∧1 ≤ (MC.head c (t.drop (n + 1))).text.length:=by
  rw [MC.head_len]
  have:=MC.firstOf_bound c (t.drop (n + 1))
  have hl:=(List.getElem?_eq_some_iff.mp h).1
  simp only [List.length_cons,List.length_drop] at this
  omega
theorem nodup_f {α:Type} [DecidableEq α] (f:Nat->α):∀ (n:Nat) (l:List α),l.Nodup->(∀ x ∈ l,∃ m,m < n∧x=f m)->l.length ≤ n
  | 0,l,_,h=>by
    cases l with
    | nil=>simp
    | cons a r =>
      obtain ⟨m,hm,_⟩:=h a List.mem_cons_self
      omega
  | n + 1,l,hn,h=>by
    by_cases hm:f n ∈ l
    · have h2:=nodup_f f n (l.erase (f n)) (hn.erase _) (fun x hx=>by
        have hx':=(hn.mem_erase_iff).mp hx
        obtain ⟨m,hm,e⟩:=h x hx'.2
        refine ⟨m,?_,e⟩
        have:m ≠ n:=fun q=>hx'.1 (by rw [e,q])
        omega)
      rw [List.length_erase_of_mem hm] at h2
      omega
    · have:=nodup_f f n l hn (fun x hx=>by
        obtain ⟨m,hm',e⟩:=h x hx
        refine ⟨m,?_,e⟩
        have:m ≠ n:=fun q=>hm (by rw [← q,← e]; exact hx)
        omega)
      omega
theorem lone_all : ∀ n:Fin 256,([33,37,40,41,42,43,44,45,46,47,58,59,60,61,62,91,93,123,125]:List Int).any (fun k=>k == bi (UInt8.ofNat n.val))=singles.contains (UInt8.ofNat n.val):=by decide +kernel
theorem lone_is (c:UInt8):([33,37,40,41,42,43,44,45,46,47,58,59,60,61,62,91,93,123,125]:List Int).any (fun k=>k == bi c)=singles.contains c:=by
  have h:=lone_all ⟨c.toNat,by simpa using c.toNat_lt⟩
  rw [show UInt8.ofNat c.toNat=c from UInt8.ofNat_toNat] at h
  exact h
theorem bi_beq (k:Nat) (hk:k < 256) (c:UInt8):((k:Int) == bi c)=(c == UInt8.ofNat k):=by
  by_cases e:c=UInt8.ofNat k
  · have:=(bi_eq c k hk).mpr e
    rw [this,e]
    simp
  · rw [beq_eq_false_iff_ne.mpr e,beq_eq_false_iff_ne.mpr (fun z=>e ((bi_eq c k hk).mp z.symm))]
theorem pair_is (c d:UInt8):([(61,62),(61,61),(33,61),(60,61),(62,61),(38,38),(124,124)]:List (Int × Int)).any (fun p=>p.1 == bi c && p.2 == bi d)=pairs.contains (c,d):=by
  have h (k:Nat) (hk:k < 256) (x:UInt8):=bi_beq k hk x
  unfold pairs
  simp only [List.any_cons,List.any_nil,List.contains_cons,List.contains_nil]
  have e:∀ (a b:Nat) (ha:a < 256) (hb:b < 256),((a:Int) == bi c && (b:Int) == bi d)=((c,d) == (UInt8.ofNat a,UInt8.ofNat b)):=by
    intro a b ha hb
    rw [h a ha c,h b hb d]
    rfl
  rw [show (((61:Int) == bi c && (62:Int) == bi d))=((c,d) == ((61:UInt8),(62:UInt8))) from e 61 62 (by omega) (by omega),
    show (((61:Int) == bi c && (61:Int) == bi d))=((c,d) == ((61:UInt8),(61:UInt8))) from e 61 61 (by omega) (by omega),
    show (((33:Int) == bi c && (61:Int) == bi d))=((c,d) == ((33:UInt8),(61:UInt8))) from e 33 61 (by omega) (by omega),
    show (((60:Int) == bi c && (61:Int) == bi d))=((c,d) == ((60:UInt8),(61:UInt8))) from e 60 61 (by omega) (by omega),
    show (((62:Int) == bi c && (61:Int) == bi d))=((c,d) == ((62:UInt8),(61:UInt8))) from e 62 61 (by omega) (by omega),
    show (((38:Int) == bi c && (38:Int) == bi d))=((c,d) == ((38:UInt8),(38:UInt8))) from e 38 38 (by omega) (by omega),
    show (((124:Int) == bi c && (124:Int) == bi d))=((c,d) == ((124:UInt8),(124:UInt8))) from e 124 124 (by omega) (by omega)]
end Cm
end
section
namespace Cm
open Vafmta
def oneS (t:Bytes):Stretch × Bytes × Bool:=oneStretch (t.length + 1) t
theorem oneS_nil : oneS []=([],[],false):=rfl
theorem oneS_cons (c:UInt8) (r:Bytes):oneS (c :: r)=if isSemi (MC.head c r) then (MC.head c r :: commentBehind (MC.rest c r),(MC.rest c r).drop (sizeOf_ (commentBehind (MC.rest c r))),true) else (MC.head c r :: (oneS (MC.rest c r)).1,(oneS (MC.rest c r)).2):=by
  unfold oneS
  show oneStretch (r.length + 1 + 1) (c :: r)=_
  rw [MC.oneStretch_cons]
  have hl:=MC.rest_lt c r
  rw [MC.oneStretch_fuel (r.length + 1) ((MC.rest c r).length + 1) (MC.rest c r) (by simp at hl; omega) (by omega)]
theorem semi_is (c:UInt8) (r:Bytes):isSemi (MC.head c r)=(decide ((MC.head c r).kind = .sign) && decide (c=SEMI)):=by
  unfold isSemi
  have e0:((MC.head c r).kind == Kind.sign)=decide ((MC.head c r).kind = .sign):=by
    by_cases h:(MC.head c r).kind = .sign
    · rw [h]; rfl
    · rw [decide_eq_false h]; exact beq_eq_false_iff_ne.mpr h
  rw [e0]
  by_cases hc:c=SEMI
  · subst hc
    have e1:firstOf SEMI r=(.sign,1):=by
      have e2:signLength SEMI r=1:=by
        unfold signLength
        cases r with
        | nil=>rfl
        | cons d s =>
          simp only
          rw [if_neg]
          · rfl
          · intro q
            have hm:=List.elem_iff.mp q
            have:∀ p ∈ pairs,p.1 ≠ SEMI:=by decide
            exact this _ hm rfl
      unfold firstOf
      rw [if_neg (by decide),if_neg (by decide),if_neg (by decide),if_neg (by decide),if_neg (by decide),if_neg (by decide),e2]
      rfl
    have e3:MC.head SEMI r=⟨.sign,[SEMI]⟩:=by unfold MC.head; rw [e1]; rfl
    rw [e3]
    rfl
  · rw [decide_eq_false hc,Bool.and_false]
    have:((MC.head c r).text == [SEMI])=false:=by
      apply beq_eq_false_iff_ne.mpr
      intro e
      have hb:=MC.firstOf_bound c r
      have:(MC.head c r).text=c :: r.take ((firstOf c r).2 - 1):=by
        unfold MC.head
        simp only
        conv=>lhs; rw [show (firstOf c r).2=((firstOf c r).2 - 1) + 1 by omega]
        rw [List.take_succ_cons]
      rw [this] at e
      exact hc (List.cons.inj e).1
    rw [this,Bool.and_false]
theorem oneS_rest (t:Bytes):(oneS t).2.1=t.drop (sizeOf_ (oneS t).1)∧sizeOf_ (oneS t).1 ≤ t.length:=by
  have h:=(MC.one_of (t.length + 1) t (by omega)).bytes
  unfold oneS sizeOf_
  generalize oneStretch (t.length + 1) t=x at h ⊢
  have e:=congrArg List.length h
  rw [List.length_append] at e
  refine ⟨?_,by omega⟩
  conv=>rhs; rw [h]
  rw [List.drop_left]
theorem oneS_gen (t:Bytes):∀ p ∈ (oneS t).1,MC.Gen p:=(MC.one_of (t.length + 1) t (by omega)).gen
theorem oneS_pos (t:Bytes) (h:(oneS t).2.2=true):0 < sizeOf_ (oneS t).1:=MC.size_pos (oneS_gen t) ((MC.one_of (t.length + 1) t (by omega)).pos h)
theorem take_blanks (k:Nat) (u:Bytes) (h:∀ c s,u=c :: s->c ≠ BLANK):((List.replicate k BLANK ++ u).takeWhile fun b=>b == BLANK).length=k:=by
  induction k with
  | zero =>
    cases u with
    | nil=>rfl
    | cons c s =>
      show ((c :: s).takeWhile _).length=0
      rw [List.takeWhile_cons,if_neg]
      · rfl
      · intro q; exact h c s rfl (eq_of_beq q)
  | succ k ih =>
    rw [List.replicate_succ,List.cons_append,List.takeWhile_cons,if_pos (by decide),List.length_cons,ih]
theorem behind_end (k:Nat):commentBehind (List.replicate k BLANK)=[]:=by
  have e:=take_blanks k [] (fun c s q=>by cases q)
  rw [List.append_nil] at e
  unfold commentBehind
  simp only
  rw [e,List.drop_eq_nil_of_le (by simp)]
theorem behind_is (k:Nat) (c:UInt8) (r:Bytes) (h:c ≠ BLANK):commentBehind (List.replicate k BLANK ++ c :: r)=if c=HASH then List.replicate k ⟨.blank,[BLANK]⟩ ++ [MC.head c r] else []:=by
  have e:=take_blanks k (c :: r) (fun c' s q=>by rw [← (List.cons.inj q).1]; exact h)
  unfold commentBehind
  simp only
  rw [e]
  have ed:(List.replicate k BLANK ++ c :: r).drop k=c :: r:=by
    have z:=List.drop_left (l₁:=List.replicate k BLANK) (l₂:=c :: r)
    rw [List.length_replicate] at z
    exact z
  rw [ed]
  simp only
  by_cases hc:c=HASH
  · subst hc
    rw [if_pos rfl,if_pos rfl]
    congr 1
    unfold MC.head
    rw [MC.kind_hash]
    simp only [Nat.add_comm 1,List.take_succ_cons,MC.take_takeWhile_len]
  · rw [if_neg hc,if_neg hc]
theorem head_blank (r:Bytes):MC.head BLANK r=⟨.blank,[BLANK]⟩:=by
  unfold MC.head
  rw [MC.kind_blank]
  rfl
theorem kind_blank_iff {c:UInt8}{r:Bytes}:(MC.head c r).kind = .blank ↔ c=BLANK:=by
  constructor
  · intro h
    by_cases hp:MC.Plain c
    · rcases hp with e | e | e
      · exact e
      · subst e; unfold MC.head at h; rw [MC.kind_line] at h; cases h
      · subst e; unfold MC.head at h; rw [MC.kind_hash] at h; cases h
    · have:=MC.tok_of hp r
      rw [Piece.isToken,h] at this
      cases this
  · intro h
    subst h
    rw [head_blank]
theorem kind_comment_iff {c:UInt8}{r:Bytes}:(MC.head c r).kind = .comment ↔ c=HASH:=by
  constructor
  · exact MC.kind_comment
  · intro h
    subst h
    unfold MC.head
    rw [MC.kind_hash]
theorem kindNo_inj {a b:Kind} (h:kindNo a=kindNo b):a=b:=by cases a <;> cases b <;> first | rfl | (exact absurd h (by decide))
theorem kindNo_tok (p:Piece):decide (3 ≤ kindNo p.kind)=p.isToken:=by
  unfold Piece.isToken
  cases p.kind <;> decide
theorem size_sum (s:Stretch):(s.map fun p=>(p.text.length:Int)).sum=(sizeOf_ s:Int):=by
  unfold sizeOf_
  induction s with
  | nil=>rfl
  | cons p l ih =>
    rw [List.map_cons,List.sum_cons,ih,MC.bytesOf_cons,List.length_append]
    omega
theorem total_sum (ss:List Stretch):(ss.map fun s=>(sizeOf_ s:Int)).sum=(MC.total ss:Int):=by
  induction ss with
  | nil=>rfl
  | cons s l ih=>rw [List.map_cons,List.sum_cons,ih,MC.total_cons]; omega
theorem tokens_sum (ss:List Stretch):(ss.map fun s=>((tokenPieces s).length:Int)).sum=(tokensIn ss:Int):=by
  unfold tokensIn
  induction ss with
  | nil=>rfl
  | cons s l ih =>
    rw [List.map_cons,List.sum_cons,ih,List.flatMap_cons,List.length_append]
    omega
theorem tokenPieces_append (a b:List Piece):tokenPieces (a ++ b)=tokenPieces a ++ tokenPieces b:=by
  unfold tokenPieces
  rw [List.filter_append]
theorem tokensIn_flat (ss:List Stretch):tokensIn ss=(tokenPieces ss.flatten).length:=by
  unfold tokensIn
  induction ss with
  | nil=>rfl
  | cons s l ih=>rw [List.flatMap_cons,List.length_append,ih,List.flatten_cons,tokenPieces_append,List.length_append]
theorem ends_eq (ss:List Stretch):∀ (n:Nat),endsFrom n ss=(List.range ss.length).map fun i=>n + MC.sz ss (i + 1):=by
  induction ss with
  | nil=>intro n; rfl
  | cons s l ih =>
    intro n
    rw [endsFrom,ih,List.length_cons,List.range_succ_eq_map,List.map_cons,List.map_map]
    congr 1
    · rw [MC.sz_cons,MC.sz_zero,Nat.add_zero]
    · apply List.map_congr_left
      intro i _
      simp only [Function.comp,Nat.succ_eq_add_one]
      rw [MC.sz_cons s l (i + 1)]
      omega
theorem fresh_none : ∀ (f place:Nat) (t:Bytes),MC.fresh (fun _=>none) f place t=(stretchesFrom f t,false)
  | 0,_,_=>rfl
  | f + 1,place,t=>by
    rw [MC.fresh,stretchesFrom]
    simp only [Option.isSome_none,Bool.false_eq_true,if_false]
    cases h:(oneStretch (t.length + 1) t).2.2 with
    | false=>rw [if_pos rfl,if_neg (by decide)]
    | true =>
      rw [if_neg (by decide),if_pos rfl,fresh_none f]
theorem fresh_step (on:Nat->Option (List Stretch)) (f place:Nat) (t:Bytes):MC.fresh on (f + 1) place t=if (oneS t).2.2=false then ([(oneS t).1],false) else if (on (place + sizeOf_ (oneS t).1)).isSome then ([(oneS t).1],true)
    else ((oneS t).1 :: (MC.fresh on f (place + sizeOf_ (oneS t).1) (oneS t).2.1).1,(MC.fresh on f (place + sizeOf_ (oneS t).1) (oneS t).2.1).2):=by
  rw [MC.fresh]
  rfl
end Cm
end
section
namespace Cm
open Vafmta
theorem lineStart_zero (t:Bytes):lineStart t 0=0:=by unfold lineStart; omega
theorem take_rev {t:Bytes}{n:Nat}{c:UInt8} (h:t[n]?=some c):(t.take (n + 1)).reverse=c :: (t.take n).reverse:=by
  rw [List.take_add_one,h]
  simp
theorem lineStart_step {t:Bytes}{n:Nat}{c:UInt8} (h:t[n]?=some c) (hc:c ≠ LINE):lineStart t (n + 1)=lineStart t n:=by
  unfold lineStart
  rw [take_rev h,List.takeWhile_cons,if_pos (by simpa using hc),List.length_cons]
  omega
theorem lineStart_stop {t:Bytes}{n:Nat} (h:t[n]?=some LINE):lineStart t (n + 1)=n + 1:=by
  unfold lineStart
  rw [take_rev h,List.takeWhile_cons,if_neg (by decide)]
  rfl
theorem kept_lt {t:Bytes}{ss:List Stretch}{a k:Nat} (G:MC.Good t ss) (ha:a ≤ t.length) (h:∀ j,j < k->MC.sz ss (j + 1) < lineStart t a) (hk:k ≤ ss.length):k < ss.length:=by
  rcases Nat.lt_or_ge k ss.length with q | q
  · exact q
  · exfalso
    have hne:0 < ss.length:=by
      cases ss with
      | nil=>exact absurd rfl G.ne
      | cons=>simp
    have e:k=ss.length:=by omega
    have:=h (k - 1) (by omega)
    rw [show k - 1 + 1=ss.length by omega] at this
    have e2:MC.sz ss ss.length=t.length:=by
      unfold MC.sz
      rw [List.take_length,G.bytes]
    have:=MC.lineStart_le t a
    omega
theorem kept_iff {t:Bytes}{ss:List Stretch}{a k:Nat} (h:∀ j,j < k->MC.sz ss (j + 1) < lineStart t a) (h2:k < ss.length->lineStart t a ≤ MC.sz ss (k + 1)) {i:Nat} (hi:i < ss.length):MC.sz ss (i + 1) < lineStart t a ↔ i < k:=by
  constructor
  · intro q
    rcases Nat.lt_or_ge i k with z | z
    · exact z
    · have:=h2 (by omega)
      have:=MC.sz_mono (ss:=ss) (show k + 1 ≤ i + 1 by omega)
      omega
  · exact h i
end Cm
end
section
namespace Cm
open Vafmta
def lbFrom : Nat->Bytes->List Nat
  | _,[]=>[]
  | p,c :: r=>if c=LINE then (p + 1) :: lbFrom (p + 1) r else lbFrom (p + 1) r
theorem lineAt_is : ∀ (t:Bytes) (p n:Nat),lineAt p n t=(p :: lbFrom p t)[n]?
  | [],p,0=>rfl
  | [],p,n + 1=>by rw [lineAt,lbFrom]; simp
  | c :: r,p,0=>by rw [lineAt]; rfl
  | c :: r,p,n + 1=>by
    rw [lineAt,lbFrom,List.getElem?_cons_succ]
    by_cases h:c=LINE
    · rw [if_pos h,if_pos h,lineAt_is r]
    · rw [if_neg h,if_neg h,lineAt_is r,List.getElem?_cons_succ]
theorem lbFrom_snoc : ∀ (t:Bytes) (p:Nat) (c:UInt8),lbFrom p (t ++ [c])=lbFrom p t ++ (if c=LINE then [p + t.length + 1] else [])
  | [],p,c=>by
    show (if c=LINE then [p + 1] else [])=_
    rfl
  | d :: r,p,c=>by
    rw [List.cons_append,lbFrom,lbFrom,lbFrom_snoc r]
    have e:p + 1 + r.length + 1=p + (d :: r).length + 1:=by rw [List.length_cons]; omega
    rw [e]
    split
    · rfl
    · rfl
theorem lbFrom_le : ∀ (t:Bytes) (p s:Nat),s ∈ lbFrom p t->s ≤ p + t.length
  | [],p,s,h=>by cases h
  | c :: r,p,s,h=>by
    rw [lbFrom] at h
    rw [List.length_cons]
    split at h
    · rcases List.mem_cons.mp h with e | e
      · omega
      · have:=lbFrom_le r (p + 1) s e; omega
    · have:=lbFrom_le r (p + 1) s h; omega
theorem lbFrom_len : ∀ (t:Bytes) (p:Nat),(lbFrom p t).length ≤ t.length
  | [],p=>Nat.le_refl _
  | c :: r,p=>by
    rw [lbFrom,List.length_cons]
    have:=lbFrom_len r (p + 1)
    split
    · rw [List.length_cons]; omega
    · omega
def placeI (t:Bytes) (l c:Int):Int:=if l < 0 ∨ c < 0 then -1 else (match placeAt t l.toNat c.toNat with
  | some n=>(n:Int)
  | none=>-1)
theorem placeI_neg {t:Bytes}{l c:Int} (h:l < 0 ∨ c < 0):placeI t l c = -1:=by unfold placeI; rw [if_pos h]
theorem placeI_none {t:Bytes}{l c:Int} (h:(0 :: lbFrom 0 t)[l.toNat]?=none):placeI t l c = -1:=by
  unfold placeI
  split
  · rfl
  · unfold placeAt
    rw [lineAt_is,h]
    rfl
theorem placeI_some {t:Bytes}{l c:Int}{s:Nat} (h0:¬ (l < 0 ∨ c < 0)) (h:(0 :: lbFrom 0 t)[l.toNat]?=some s):placeI t l c=if (runEnd (fun b=>b != LINE) t s:Int) < (s:Int) + c then -1 else (s:Int) + c:=by
  unfold placeI
  rw [if_neg h0]
  unfold placeAt
  rw [lineAt_is,h]
  show (match (if c.toNat ≤ ((t.drop s).takeWhile fun b=>b != LINE).length then some (s + c.toNat) else none) with | some n=>(n:Int) | none=>-1)=_
  unfold runEnd
  by_cases hc:c.toNat ≤ ((t.drop s).takeWhile fun b=>b != LINE).length
  · rw [if_pos hc,if_neg (by omega)]
    show ((s + c.toNat:Nat):Int)=_
    omega
  · rw [if_neg hc,if_pos (by omega)]
theorem count_lines (t:Bytes):(t.map bi).count 10=t.countP fun b=>b == LINE:=by
  induction t with
  | nil=>rfl
  | cons c r ih =>
    rw [List.map_cons,List.count_cons,List.countP_cons,ih]
    congr 1
    have e:(bi c == (10:Int))=(c == LINE):=by
      by_cases h:c=LINE
      · subst h; decide
      · rw [beq_eq_false_iff_ne.mpr h]
        exact beq_eq_false_iff_ne.mpr (fun z=>h ((bi_eq c 10 (by omega)).mp z))
    rw [e]
def kindNum (m:Nat) (k:Nat) (l:List Piece):Int × Int:=match pieceAt m k l with
  | none=>(8,-1)
  | some x=>(kindNo x.1.kind,if x.1.isToken=true then Int.ofNat x.2 - 1 else -1)
theorem kindNum_nil (m k:Nat):kindNum m k []=(8,-1):=rfl
theorem kindNum_here {m k:Nat}{p:Piece}{l:List Piece} (h:m < p.text.length):kindNum m k (p :: l)=(kindNo p.kind,if p.isToken=true then (k:Int) else -1):=by
  unfold kindNum
  rw [pieceAt,if_pos h]
  simp only
  split
  · congr 1
    show ((k + 1:Nat):Int) - 1=(k:Int)
    omega
  · rfl
theorem kindNum_next {m k:Nat}{p:Piece}{l:List Piece} (h:¬ m < p.text.length):kindNum m k (p :: l)=kindNum (m - p.text.length) (if p.isToken=true then k + 1 else k) l:=by
  unfold kindNum
  rw [pieceAt,if_neg h]
end Cm
end
section
namespace Cm
open Vafmta
theorem trimmed_step {r:Bytes}{e:Nat} (h:r[e]?=some BLANK):trimmed (r.take (e + 1))=trimmed (r.take e):=by
  unfold trimmed
  rw [take_rev h,List.dropWhile_cons,if_pos (by decide)]
theorem trimmed_stop {r:Bytes}{e:Nat}{c:UInt8} (h:r[e]?=some c) (hc:c ≠ BLANK):trimmed (r.take (e + 1))=r.take (e + 1):=by
  unfold trimmed
  rw [take_rev h,List.dropWhile_cons,if_neg (by simpa using hc),← take_rev h,List.reverse_reverse]
theorem put_place (s:Run) (p:Piece):(s.put p).place=s.place + p.text.length:=by
  rcases MC.kinds p with hk | hk | hk | hk
  · rw [MC.put_blank hk]
  · rw [MC.put_line hk]
  · unfold Run.put
    rw [hk]
    simp only
    cases s.tokens with
    | nil=>rfl
    | cons t r =>
      cases s.leads with
      | cons=>rfl
      | nil =>
        simp only
        split <;> rfl
  · rw [MC.put_token hk]
theorem fold_place : ∀ (l:List Piece) (s:Run),(l.foldl Run.put s).place=s.place + (bytesOf l).length
  | [],s=>rfl
  | p :: l,s=>by
    rw [List.foldl_cons,fold_place l,put_place,MC.bytesOf_cons,List.length_append]
    omega
theorem next_bytes {t:Bytes}{done rem:List Piece}{p:Piece}{l:List Piece} (h:bytesOf l=t) (e:l=done ++ p :: rem):t.drop (bytesOf done).length=p.text ++ bytesOf rem:=by
  rw [← h,e,MC.bytesOf_append,List.drop_left,MC.bytesOf_cons]
theorem gen_pos {p:Piece} (g:MC.Gen p):1 ≤ p.text.length:=by
  obtain ⟨c,s,e⟩:=MC.gen_start g
  rw [e]
  simp
theorem gen_hash {p:Piece} (g:MC.Gen p) (hk:p.kind = .comment):∃ r,p.text=HASH :: r:=by
  obtain ⟨c,r,rfl⟩:=g
  have hc:=MC.kind_comment hk
  subst hc
  have hb:=MC.firstOf_bound HASH r
  refine ⟨r.take ((firstOf HASH r).2 - 1),?_⟩
  unfold MC.head
  simp only
  conv=>lhs; rw [show (firstOf HASH r).2=((firstOf HASH r).2 - 1) + 1 by omega]
  rw [List.take_succ_cons]
end Cm
end
section
namespace Cm
open Vafmta
theorem unlike_step {n:Nat}{A B:List Token}{x y:List Lead}{i:Nat}{a b:Token} (ha:A[i]?=some a) (hb:B[i]?=some b) (h:alike a b=true):unlike n (A.drop i) (B.drop i) x y=unlike (n + 1) (A.drop (i + 1)) (B.drop (i + 1)) x y:=by
  rw [drop_cons ha,drop_cons hb,unlike,if_pos h]
theorem unlike_here {n:Nat}{A B:List Token}{x y:List Lead}{i:Nat}{a b:Token} (ha:A[i]?=some a) (hb:B[i]?=some b) (h:alike a b=false):unlike n (A.drop i) (B.drop i) x y=some n:=by
  rw [drop_cons ha,drop_cons hb,unlike,if_neg (by rw [h]; decide)]
theorem unlike_len {n:Nat}{A B:List Token}{x y:List Lead} (h:A.length ≠ B.length):unlike n (A.drop (min A.length B.length)) (B.drop (min A.length B.length)) x y=some n:=by
  rcases Nat.lt_or_ge A.length B.length with q | q
  · rw [Nat.min_eq_left (by omega),List.drop_length]
    cases e:B.drop A.length with
    | nil=>have:=List.drop_eq_nil_iff.mp e; omega
    | cons b l=>rfl
  · rw [Nat.min_eq_right (by omega),List.drop_length]
    cases e:A.drop B.length with
    | nil=>have:=List.drop_eq_nil_iff.mp e; omega
    | cons b l=>rfl
theorem unlike_end {n:Nat}{A B:List Token}{x y:List Lead} (h:A.length=B.length):unlike n (A.drop (min A.length B.length)) (B.drop (min A.length B.length)) x y=if (x.map fun l=>l.text) == (y.map fun l=>l.text) then none else some n:=by
  rw [h,Nat.min_self,List.drop_length,← h,List.drop_length]
  rfl
def diffI (A B:List Token) (x y:List Lead):Int:=match unlike 0 A B x y with
  | none=>-1
  | some n=>(n:Int)
theorem diffI_some {A B:List Token}{x y:List Lead}{n:Nat} (h:unlike 0 A B x y=some n):diffI A B x y=(n:Int):=by unfold diffI; rw [h]
theorem diffI_none {A B:List Token}{x y:List Lead} (h:unlike 0 A B x y=none):diffI A B x y = -1:=by unfold diffI; rw [h]
theorem bi_beq2 (a b:UInt8):(bi a == bi b)=(a == b):=by
  by_cases h:a=b
  · subst h; simp
  · rw [beq_eq_false_iff_ne.mpr h,beq_eq_false_iff_ne.mpr (fun e=>h (bi_inj e))]
theorem kind_beq (a b:Kind):(kindNo a == kindNo b)=(a == b):=by
  by_cases h:a=b
  · subst h; simp
  · rw [beq_eq_false_iff_ne.mpr h,beq_eq_false_iff_ne.mpr (fun e=>h (kindNo_inj e))]
end Cm
end
section
namespace Cm
open Vafmta
def oqI : Option Nat->Int
  | none=>-1
  | some k=>(k:Int)
theorem oqI_neg {o:Option Nat} (h:¬ 0 ≤ oqI o):o=none:=by
  cases o with
  | none=>rfl
  | some k=>exact absurd (show (0:Int) ≤ (k:Int) by omega) h
theorem oqI_some {o:Option Nat} (h:0 ≤ oqI o):∃ k,o=some k∧oqI o=(k:Int):=by
  cases o with
  | none=>exact absurd h (by decide)
  | some k=>exact ⟨k,rfl,rfl⟩
theorem unsure_none {w:MC.W}{p:Piece} (h:w.oq=none ∨ QUOTE ∉ p.text):w.unsure p=w.toks.length - 2:=by
  unfold MC.W.unsure
  cases e:w.oq with
  | none=>rfl
  | some k =>
    rcases h with h | h
    · rw [e] at h; cases h
    · simp only
      rw [if_neg h]
theorem unsure_some {w:MC.W}{p:Piece}{k:Nat} (h:w.oq=some k) (hq:QUOTE ∈ p.text):w.unsure p=min (w.toks.length - 2) k:=by
  unfold MC.W.unsure
  rw [h]
  simp only
  rw [if_pos hq]
theorem place_le {w:MC.W} (I:MC.WInv w) (p:Piece):w.place p ≤ w.text.length:=by
  unfold MC.W.place
  cases e:w.begins[w.unsure p]? with
  | none=>exact Nat.zero_le _
  | some b=>exact (I.bd _ _ e).2.2
theorem put_len (w:MC.W) (p:Piece):(w.put p).text.length ≤ w.text.length + p.text.length + 1∧(w.put p).toks=w.toks ++ [p]:=by
  unfold MC.W.put
  split
  · exact ⟨by show (w.text ++ ([] ++ p.text)).length ≤ _; rw [List.length_append,List.nil_append]; omega,rfl⟩
  · split
    · exact ⟨by show (w.text ++ ([BLANK] ++ p.text)).length ≤ _; simp; omega,rfl⟩
    · exact ⟨by show (w.text ++ ([LINE] ++ p.text)).length ≤ _; simp; omega,rfl⟩
def sumLen (l:List Piece):Nat:=(l.map fun p=>p.text.length + 1).sum
theorem fold_len : ∀ (l:List Piece) (w:MC.W),(l.foldl MC.W.put w).text.length ≤ w.text.length + sumLen l∧(l.foldl MC.W.put w).toks.length=w.toks.length + l.length
  | [],w=>⟨Nat.le_refl _,rfl⟩
  | p :: l,w=>by
    have h1:=put_len w p
    have h2:=fold_len l (w.put p)
    rw [List.foldl_cons]
    have:sumLen (p :: l)=(p.text.length + 1) + sumLen l:=by unfold sumLen; rw [List.map_cons,List.sum_cons]
    rw [this,List.length_cons]
    have h3:=h2.2
    rw [h1.2,List.length_append] at h3
    simp at h3
    omega
theorem sumLen_take (l:List Piece) (i:Nat):sumLen (l.take i) ≤ sumLen l:=by
  have h:sumLen l=sumLen (l.take i) + sumLen (l.drop i):=by
    unfold sumLen
    rw [← List.sum_append,← List.map_append,List.take_append_drop]
  omega
theorem fold_inv : ∀ (l:List Piece) (w:MC.W),MC.WInv w->(∀ p ∈ l,MC.Gen p∧p.isToken=true)->MC.WInv (l.foldl MC.W.put w):=fun l w I h=>(MC.spacedFrom_put l w I h).2
theorem mem_quote (t:Bytes):(t.any fun b=>bi b == 34)=decide (QUOTE ∈ t):=by
  induction t with
  | nil=>rfl
  | cons c r ih =>
    rw [List.any_cons,ih]
    by_cases h:c=QUOTE
    · subst h
      rw [decide_eq_true (List.mem_cons_self)]
      rfl
    · have e:(bi c == 34)=false:=beq_eq_false_iff_ne.mpr (fun z=>h ((bi_eq c 34 (by omega)).mp z))
      rw [e,Bool.false_or]
      apply decide_eq_decide.mpr
      rw [List.mem_cons]
      exact ⟨.inr,fun z=>z.resolve_left fun q=>h q.symm⟩
theorem cut_step {t:Bytes}{n:Nat}{c:UInt8} (h:t[n]?=some c):tokenPieces (cut (t.drop n))=(if (MC.head c (t.drop (n + 1))).isToken=true then [MC.head c (t.drop (n + 1))] else []) ++ tokenPieces (cut (t.drop (n + (MC.head c (t.drop (n + 1))).text.length))):=by
  rw [drop_cons h,MC.cut_cons,rest_is h]
  unfold tokenPieces
  rw [List.filter_cons]
  split <;> rfl
end Cm
end
section
namespace Cm
open Vafmta
def leadsW (l:List Lead):Nat:=(l.map fun x=>x.text.length + 2).sum
theorem leadsW_append (a b:List Lead):leadsW (a ++ b)=leadsW a + leadsW b:=by unfold leadsW; rw [List.map_append,List.sum_append]
theorem leadsW_reverse (a:List Lead):leadsW a.reverse=leadsW a:=by
  induction a with
  | nil=>rfl
  | cons x l ih =>
    rw [List.reverse_cons,leadsW_append,ih]
    unfold leadsW
    simp only [List.map_cons,List.map_nil,List.sum_cons,List.sum_nil]
    omega
theorem leadsW_len (a:List Lead):a.length ≤ leadsW a:=by
  induction a with
  | nil=>exact Nat.le_refl _
  | cons x l ih =>
    unfold leadsW at ih ⊢
    rw [List.map_cons,List.sum_cons,List.length_cons]
    omega
theorem dropWhile_le {α:Type} (p:α->Bool):∀ (l:List α),(l.dropWhile p).length ≤ l.length
  | []=>Nat.le_refl _
  | a :: l=>by
    rw [List.dropWhile_cons]
    split
    · have:=dropWhile_le p l; simp; omega
    · exact Nat.le_refl _
theorem trimmed_le (t:Bytes):(trimmed t).length ≤ t.length:=by
  unfold trimmed
  have:=dropWhile_le (fun b=>b == BLANK) t.reverse
  rw [List.length_reverse] at this
  rw [List.length_reverse]
  exact this
structure RunW (s:Run):Prop where
  leads:leadsW s.leads ≤ 3 * s.place
  toks:∀ t ∈ s.tokens,leadsW t.leads ≤ 3 * s.place∧t.text.length ≤ s.place∧(∀ b,t.behind=some b->b.length ≤ s.place)
theorem RunW.put {s:Run}{p:Piece} (h:RunW s) (g:1 ≤ p.text.length):RunW (s.put p):=by
  have up:∀ t ∈ s.tokens,leadsW t.leads ≤ 3 * (s.place + p.text.length)∧t.text.length ≤ s.place + p.text.length∧(∀ b,t.behind=some b->b.length ≤ s.place + p.text.length):=fun t ht=>by
    have:=h.toks t ht
    exact ⟨by omega,by omega,fun b hb=>by have:=this.2.2 b hb; omega⟩
  have ht:=trimmed_le p.text
  have hl:=h.leads
  have lead:RunW (s.lead p):=by
    refine ⟨?_,up⟩
    show leadsW (⟨s.gap,trimmed p.text⟩ :: s.leads) ≤ 3 * (s.place + p.text.length)
    unfold leadsW at hl ⊢
    rw [List.map_cons,List.sum_cons]
    simp only
    omega
  rcases MC.kinds p with hk | hk | hk | hk
  · rw [MC.put_blank hk]
    exact ⟨by show leadsW s.leads ≤ 3 * (s.place + p.text.length); omega,up⟩
  · rw [MC.put_line hk]
    exact ⟨by show leadsW s.leads ≤ 3 * (s.place + p.text.length); omega,up⟩
  · unfold Run.put
    rw [hk]
    simp only
    cases e:s.tokens with
    | nil=>simp only; exact lead
    | cons t r =>
      cases e2:s.leads with
      | cons=>simp only; exact lead
      | nil =>
        simp only
        split
        · refine ⟨?_,fun t' ht'=>?_⟩
          · exact Nat.zero_le _
          · rcases List.mem_cons.mp ht' with z | z
            · subst z
              have:=up t (by rw [e]; exact List.mem_cons_self)
              exact ⟨this.1,this.2.1,fun b hb=>by have:trimmed p.text=b:=Option.some.inj hb; rw [← this]; show _ ≤ s.place + p.text.length; omega⟩
            · exact up t' (by rw [e]; exact List.mem_cons_of_mem _ z)
        · exact lead
  · rw [MC.put_token hk]
    refine ⟨Nat.zero_le _,fun t ht'=>?_⟩
    rcases List.mem_cons.mp ht' with z | z
    · subst z
      refine ⟨?_,by show p.text.length ≤ s.place + p.text.length; omega,fun b hb=>by cases hb⟩
      show leadsW s.leads.reverse ≤ 3 * (s.place + p.text.length)
      rw [leadsW_reverse]
      omega
    · exact up t z
theorem runW_fold : ∀ (l:List Piece) (s:Run),RunW s->(∀ p ∈ l,1 ≤ p.text.length)->RunW (l.foldl Run.put s)
  | [],s,h,_=>h
  | p :: l,s,h,g=>runW_fold l (s.put p) (h.put (g p List.mem_cons_self)) fun q hq=>g q (List.mem_cons_of_mem _ hq)
theorem runW_start : RunW ⟨0,0,false,[],[]⟩:=⟨Nat.zero_le _,fun t h=>by cases h⟩
theorem pieces_flat (h:Held):h.pieces=h.stretches.flatten:=by
  unfold Held.pieces
  rw [List.flatMap_id']
theorem at_none {A:Type}{l:List A}{i:Int} (h:i < 0 ∨ (l.length:Int) ≤ i):at_ l i=none:=by
  unfold at_
  split
  · rfl
  · rcases h with z | z
    · omega
    · exact List.getElem?_eq_none (by omega)
theorem at_some {A:Type}{l:List A}{i:Int} (h1:¬ i < 0) (h2:¬ (l.length:Int) ≤ i):∃ x,at_ l i=some x∧l[i.toNat]?=some x:=by
  have:i.toNat < l.length:=by omega
  refine ⟨l[i.toNat],?_,List.getElem?_eq_getElem this⟩
  unfold at_
  rw [if_neg h1]
  exact List.getElem?_eq_getElem this
theorem ends_ints (ss:List Stretch):(endsFrom 0 ss).map Int.ofNat=(List.range ss.length).map fun i=>(MC.sz ss (i + 1):Int):=by
  rw [ends_eq,List.map_map]
  apply List.map_congr_left
  intro i _
  simp only [Function.comp,Nat.zero_add]
  rfl
theorem take_rev_drop {A:Type} (l:List A) (k:Nat):(l.take k).reverse=l.reverse.drop (l.length - k):=by
  rw [List.reverse_take]
end Cm
end
section
set_option maxRecDepth 100000
namespace L2
open PySem PySem.Spec PyProof.Rows
abbrev Key:=Sum Int Str
def keyIs : Key->Value->Bool
  | .inl k,v=>Value.isInt k v
  | .inr x,v=>Value.isStrOf x v
def keyH (w:World):Key->Int
  | .inl k=>hashInt k
  | .inr x=>hashStr w x
theorem keyIs_shape : ∀ {k:Key}{v:Value},keyIs k v=true->(∃ i t,k=Sum.inl i∧v=Value.int i t) ∨ (∃ x t,k=Sum.inr x∧v=Value.str x t)
  | .inl i,v,h=>by
    obtain ⟨t,e⟩:=Value.isInt_shape (k:=i) (v:=v) h
    exact .inl ⟨i,t,rfl,e⟩
  | .inr x,v,h=>by
    obtain ⟨t,e⟩:=Value.isStrOf_shape (x:=x) (v:=v) h
    exact .inr ⟨x,t,rfl,e⟩
theorem keyIs_int (i:Int) (t:Tok):keyIs (.inl i) (.int i t)=true:=by simp [keyIs,Value.isInt]
theorem keyIs_str (x:Str) (t:Tok):keyIs (.inr x) (.str x t)=true:=by simp [keyIs,Value.isStrOf]
theorem key_ll (a b:Int):decide ((Sum.inl a:Key)=Sum.inl b)=(a == b):=by
  by_cases e:a=b
  · subst e; simp
  · have h:¬ (Sum.inl a:Key)=Sum.inl b:=fun q=>e (Sum.inl.inj q)
    rw [decide_eq_false h]
    exact (beq_eq_false_iff_ne.mpr e).symm
theorem key_rr (a b:Str):decide ((Sum.inr a:Key)=Sum.inr b)=decide (a=b):=by
  by_cases e:a=b
  · subst e; simp
  · have h:¬ (Sum.inr a:Key)=Sum.inr b:=fun q=>e (Sum.inr.inj q)
    rw [decide_eq_false h,decide_eq_false e]
theorem key_lr (a:Int) (b:Str):decide ((Sum.inl a:Key)=Sum.inr b)=false:=decide_eq_false (fun q=>nomatch q)
theorem key_rl (a:Str) (b:Int):decide ((Sum.inr a:Key)=Sum.inl b)=false:=decide_eq_false (fun q=>nomatch q)
def mixKind (prog:Program) (w:World):PySem.KeyKind prog w Key where
  is:=keyIs
  hash:=keyH w
  inj:=fun v a b ha hb=>by
    rcases keyIs_shape ha with ⟨i,t,rfl,rfl⟩ | ⟨x,t,rfl,rfl⟩
    · rcases keyIs_shape hb with ⟨j,u,rfl,e⟩ | ⟨y,u,rfl,e⟩
      · injection e with e1 _; rw [e1]
      · exact nomatch e
    · rcases keyIs_shape hb with ⟨j,u,rfl,e⟩ | ⟨y,u,rfl,e⟩
      · exact nomatch e
      · injection e with e1 _; rw [e1]
  byValue:=fun k v h=>by
    rcases keyIs_shape h with ⟨i,t,rfl,rfl⟩ | ⟨x,t,rfl,rfl⟩ <;> rfl
  pyHash:=fun hv h=>by
    rcases keyIs_shape hv with ⟨i,t,rfl,rfl⟩ | ⟨x,t,rfl,rfl⟩
    · exact wpAny_pyHash_int h
    · exact wpAny_pyHash_str h
  eqBool:=fun hu hv h=>by
    rcases keyIs_shape hu with ⟨i,t,rfl,rfl⟩ | ⟨x,t,rfl,rfl⟩
    · rcases keyIs_shape hv with ⟨j,u,rfl,rfl⟩ | ⟨y,u,rfl,rfl⟩
      · rw [key_ll] at h; exact wpAny_eqBool_int h
      · rw [key_lr] at h; exact SeqAt.EqAt.int_str i t y u _ _ _ _ h
    · rcases keyIs_shape hv with ⟨j,u,rfl,rfl⟩ | ⟨y,u,rfl,rfl⟩
      · rw [key_rl] at h; exact SeqAt.EqAt.str_int x t j u _ _ _ _ h
      · rw [key_rr] at h; exact wpAny_eqBool_str h
  «strs»:=fun k x t v h=>by
    rcases keyIs_shape h with ⟨i,u,rfl,e⟩ | ⟨y,u,rfl,e⟩
    · exact nomatch e
    · injection e with e1 _
      subst e1
      cases v <;> rfl
theorem mixKind_int (prog:Program) (w:World) (i:Int) (t:Tok):(mixKind prog w).is (.inl i) (.int i t)=true:=keyIs_int i t
theorem mixKind_str (prog:Program) (w:World) (x:Str) (t:Tok):(mixKind prog w).is (.inr x) (.str x t)=true:=keyIs_str x t
end L2
namespace L2
open PySem PySem.Spec PyProof.Rows
inductive V where
  | non | bl (b:Bool) | int (i:Int) | str (x:Str) | byt (b:Array UInt8) | flt (b:UInt64) | ref (a:Addr) | ty (n:String)
  deriving DecidableEq
def RelV : V->Value->Prop
  | .non,u=>u=Value.none
  | .bl b,u=>u=Value.bool b
  | .int i,u=>∃ t,u=Value.int i t
  | .str x,u=>∃ t,u=Value.str x t
  | .byt b,u=>∃ t,u=Value.bytes b t
  | .flt b,u=>∃ t,u=Value.float b t
  | .ref a,u=>u=Value.ref a
  | .ty n,u=>u=Value.type n
abbrev Vals : List V->List Value->Prop:=Paired RelV
theorem Vals.length {xs:List V}{us:List Value} (r:Vals xs us):xs.length=us.length:=Paired.length r
theorem Vals.get : ∀ {xs:List V}{us:List Value}{i:Nat}{x:V},Vals xs us->xs[i]?=some x->∃ u,us[i]?=some u∧RelV x u
  | _,_,_,_,.nil,e=>by simp at e
  | _,_,0,_,.cons r _,e=>by simp at e; subst e; exact ⟨_,rfl,r⟩
  | _,_,i + 1,x,.cons _ t,e=>by
    obtain ⟨u,h1,h2⟩:=Vals.get (i:=i) (x:=x) t (by simpa using e)
    exact ⟨u,by simpa using h1,h2⟩
theorem Vals.append : ∀ {xs ys:List V}{us ws:List Value},Vals xs us->Vals ys ws->Vals (xs ++ ys) (us ++ ws)
  | _,_,_,_,.nil,s=>s
  | _,_,_,_,.cons r t,s=>.cons r (Vals.append t s)
theorem Vals.take : ∀ {xs:List V}{us:List Value} (n:Nat),Vals xs us->Vals (xs.take n) (us.take n)
  | _,_,0,_=>.nil
  | _,_,_ + 1,.nil=>.nil
  | _,_,n + 1,.cons r t=>.cons r (Vals.take n t)
theorem Vals.drop : ∀ {xs:List V}{us:List Value} (n:Nat),Vals xs us->Vals (xs.drop n) (us.drop n)
  | _,_,0,r=>r
  | _,_,_ + 1,.nil=>.nil
  | _,_,n + 1,.cons _ t=>Vals.drop n t
def RelO : Option V->Option Value->Prop
  | some v,some u=>RelV v u
  | none,none=>True
  | _,_=>False
def KV {κ:Type}:List (κ × V)->List (κ × Value)->Prop:=Paired fun (p:κ × V) (q:κ × Value)=>p.1=q.1∧RelV p.2 q.2
def kV : Key->V
  | .inl i=>.int i
  | .inr x=>.str x
inductive HO where
  | lst (xs:List V)
  | tup (xs:List V)
  | dK (kvs:List (Key × V)) | dT (kvs:List (List Key × V))
  | set (S:Int->Bool) (n:Nat)
  | ins (C dx:Addr) (fs:List (Str × V))
  | own (x:Addr)
  | xd (fs:List (Str × V))
  | met (f x:Addr)
  | rng (lo hi:Int)
  | frz (o:Obj) (u:HO)
  | tbl (ps:Array Value)
  | ext (φ:Heap->Prop)
abbrev Hp:=Addr->Option HO
def upd (H:Hp) (a:Addr) (o:HO):Hp:=fun b=>if b=a then some o else H b
theorem upd_same {H:Hp}{a:Addr}{o:HO}:upd H a o a=some o:=by unfold upd; rw [if_pos rfl]
theorem upd_ne {H:Hp}{a b:Addr}{o:HO} (h:b ≠ a):upd H a o b=H b:=by unfold upd; rw [if_neg h]
theorem upd_upd {H:Hp}{a:Addr}{o u:HO}:upd (upd H a o) a u=upd H a u:=by
  funext b; unfold upd; split <;> rfl
theorem ne_of {H:Hp}{a b:Addr}{o u:HO} (h:H a=some o) (h':H b=some u) (d:o ≠ u):a ≠ b:=by
  intro e; subst e; rw [h] at h'; exact d (Option.some.inj h')
theorem ne_of_none {H:Hp}{a b:Addr}{o:HO} (h:H a=some o) (h':H b=none):a ≠ b:=by
  intro e; subst e; rw [h] at h'; cases h'
section
variable (P:Program) (w:World)
def ObjOk (H:Hp) (h:Heap) (a:Addr):HO->Prop
  | .lst xs=>xs.length ≤ sizeLine∧∃ (its:List Value) (n:Nat),Vals xs its∧h.get? a=some { cls:=.type "list",data:=.seq its.toArray n }
  | .tup xs=>xs.length ≤ sizeLine∧∃ its:List Value,Vals xs its∧IsTup h a its.toArray
  | .dK kvs=>kvs.length ≤ sizeLine∧(a == sysModules)=false∧∃ vs,KV kvs vs∧h.DictOf (mixKind P w) a vs
  | .dT kvs=>kvs.length ≤ sizeLine∧(a == sysModules)=false∧∃ xs:List (List Key × Addr × Value),
      Paired (fun (p:List Key × V) (q:List Key × Addr × Value)=>p.1=q.1∧H q.2.1=some (.tup (p.1.map kV))∧RelV p.2 q.2.2) kvs xs ∧
      ∃ o es ep,h.get? a=some o∧o.ExactDict∧o.data = .dict es ep∧es.toList=xs.map (entryOfKey (tupleKind (mixKind P w)))∧(xs.map (·.1)).Nodup
  | .set S n=>h.SetOf (intKind P w) a S n
  | .ins C dx fs=>H dx=some (.own a)∧fs.length ≤ 1000∧dx ≠ a∧h.get? a=some (PySem.W.instObj C dx) ∧
      ∃ mA,h.Ns1 dx mA∧(∀ f,RelO (fs.lookup f) (mA f))∧PySem.Within mA (fs.map (·.1))
  | .own _=>∃ o,h.get? a=some o
  | .xd fs=>∃ mA,h.Ns1 a mA∧∀ f,RelO (fs.lookup f) (mA f)
  | .rng lo hi=>∃ t u v,h.get? a=some { cls:=.type "range",data:=.fields #[.int lo t,.int hi u,.int 1 v] }
  | .frz o u=>h.get? a=some o∧ObjOk H h a u
  | .tbl ps=>h.get? a=some { cls:=.none,data:=.fields ps }
  | .met f x=>h.get? a=some (PySem.W.methodObj (.ref f) (.ref x))
  | .ext φ=>φ h∧(∃ o,h.get? a=some o)∧∀ h1 h2:Heap,φ h1->(∀ o,h1.get? a=some o->h2.get? a=some o)->φ h2
def HOk (H:Hp) (h:Heap):Prop:=∀ a o,H a=some o->ObjOk P w H h a o
end
section
variable {P:Program}{w:World}{H H':Hp}{h h':Heap}{a:Addr}{o:HO}
theorem ObjOk.lt (x:ObjOk P w H h a o):a < h.objs.size:=by
  cases o with
  | lst xs=>obtain ⟨_,_,_,_,e⟩:=x; exact Heap.lt_size e
  | tup xs=>obtain ⟨_,_,_,p⟩:=x; exact p.lt
  | dK kvs=>obtain ⟨_,_,_,_,o,_,_,e,_⟩:=x; exact Heap.lt_size e
  | dT kvs=>obtain ⟨_,_,_,_,o,_,_,e,_⟩:=x; exact Heap.lt_size e
  | set S n=>obtain ⟨o,_,_,_,e,_⟩:=x; exact Heap.lt_size e
  | ins C dx fs=>obtain ⟨_,_,_,e,_⟩:=x; exact Heap.lt_size e
  | own y=>obtain ⟨_,e⟩:=x; exact Heap.lt_size e
  | xd fs=>obtain ⟨_,⟨_,_,_,e,_⟩,_⟩:=x; exact Heap.lt_size e
  | rng lo hi=>obtain ⟨_,_,_,e⟩:=x; exact Heap.lt_size e
  | frz ob u=>obtain ⟨e,_⟩:=x; exact Heap.lt_size e
  | tbl ps=>exact Heap.lt_size (show h.get? a=some _ from x)
  | met f y=>exact Heap.lt_size (show h.get? a=some _ from x)
  | ext φ=>obtain ⟨_,⟨_,e⟩,_⟩:=x; exact Heap.lt_size e
theorem Paired.mapP {α β:Type}{F G:α->β->Prop}:∀ {l₁:List α}{l₂:List β},Paired F l₁ l₂->(∀ a b,F a b->G a b)->Paired G l₁ l₂
  | _,_,.nil,_=>.nil
  | _,_,.cons r t,f=>.cons (f _ _ r) (Paired.mapP t f)
theorem ObjOk.stay (x:ObjOk P w H h a o) (k:∀ b u,(b=a ∨ H b=some (.own a))->h.get? b=some u->h'.get? b=some u)
    (ho:∀ b,H b=some (.own a)->H' b=some (.own a)) (ht:∀ b xs,H b=some (.tup xs)->H' b=some (.tup xs)):ObjOk P w H' h' a o:=by
  induction o with
  | lst xs=>obtain ⟨z,its,n,r,e⟩:=x; exact ⟨z,its,n,r,k _ _ (.inl rfl) e⟩
  | tup xs=>obtain ⟨z,its,r,ob,e,c⟩:=x; exact ⟨z,its,r,ob,k _ _ (.inl rfl) e,c⟩
  | dK kvs=>obtain ⟨z,y,vs,r,ob,es,ep,e,c⟩:=x; exact ⟨z,y,vs,r,ob,es,ep,k _ _ (.inl rfl) e,c⟩
  | dT kvs =>
    obtain ⟨z,y,xs,r,ob,es,ep,e,c⟩:=x
    exact ⟨z,y,xs,Paired.mapP r fun p q z=>⟨z.1,ht _ _ z.2.1,z.2.2⟩,ob,es,ep,k _ _ (.inl rfl) e,c⟩
  | set S n=>obtain ⟨ob,es,ep,t,e,c⟩:=x; exact ⟨ob,es,ep,t,k _ _ (.inl rfl) e,c⟩
  | ins C dx fs =>
    obtain ⟨d,z,ne,e,mA,⟨od,es,ep,e2,c⟩,r⟩:=x
    exact ⟨ho _ d,z,ne,k _ _ (.inl rfl) e,mA,⟨od,es,ep,k _ _ (.inr d) e2,c⟩,r⟩
  | own y=>obtain ⟨ob,e⟩:=x; exact ⟨ob,k _ _ (.inl rfl) e⟩
  | xd fs=>obtain ⟨mA,⟨od,es,ep,e,c⟩,r⟩:=x; exact ⟨mA,⟨od,es,ep,k _ _ (.inl rfl) e,c⟩,r⟩
  | rng lo hi=>obtain ⟨t,u,v,e⟩:=x; exact ⟨t,u,v,k _ _ (.inl rfl) e⟩
  | frz ob u ih=>obtain ⟨e,q⟩:=x; exact ⟨k _ _ (.inl rfl) e,ih q⟩
  | tbl ps =>
    have e:h.get? a=some { cls:=.none,data:=.fields ps }:=x
    show h'.get? a=some { cls:=.none,data:=.fields ps }
    exact k a _ (.inl rfl) e
  | met f y =>
    have e:h.get? a=some (PySem.W.methodObj (.ref f) (.ref y)):=x
    show h'.get? a=some (PySem.W.methodObj (.ref f) (.ref y))
    exact k a _ (.inl rfl) e
  | ext φ=>obtain ⟨p,⟨o,e⟩,st⟩:=x; exact ⟨st _ _ p fun o q=>k _ _ (.inl rfl) q,⟨o,k _ _ (.inl rfl) e⟩,st⟩
theorem HOk.lt (x:HOk P w H h) (e:H a=some o):a < h.objs.size:=(x a o e).lt
theorem HOk.fresh (x:HOk P w H h) (e:h.objs.size ≤ a):H a=none:=by
  cases q:H a with
  | none=>rfl
  | some u=>exact absurd (Nat.lt_of_lt_of_le (x.lt q) e) (Nat.lt_irrefl _)
theorem HOk.kept (x:HOk P w H h) (k:∀ b u,h.get? b=some u->h'.get? b=some u):HOk P w H h':=fun a o e =>
  (x a o e).stay (fun b u _ q=>k b u q) (fun _ q=>q) fun _ _ q=>q
theorem HOk.laid (x:HOk P w H h) (k:∀ b u,h.get? b=some u->h'.get? b=some u) (hp:h.objs.size ≤ a) (new:ObjOk P w (upd H a o) h' a o):HOk P w (upd H a o) h':=fun b u e=>by
  have hn:=x.fresh hp
  by_cases hb:b=a
  · subst hb; rw [upd_same] at e; cases e; exact new
  · rw [upd_ne hb] at e
    exact (x b u e).stay (fun c v _ q=>k c v q) (fun c q=>by rw [upd_ne (ne_of_none q hn)]; exact q) fun c xs q=>by rw [upd_ne (ne_of_none q hn)]; exact q
end
def Rd (H:Hp) (a:Addr) (u:HO):Prop:=H a=some u ∨ ∃ o,H a=some (.frz o u)
theorem Rd.ok {P:Program}{w:World}{H:Hp}{h:Heap}{a:Addr}{u:HO} (r:Rd H a u) (x:HOk P w H h):ObjOk P w H h a u:=by
  rcases r with r | ⟨o,r⟩
  · exact x a u r
  · obtain ⟨_,q⟩:=x a _ r
    exact q
def Mut : Option HO->Prop
  | some (.lst _)=>True
  | some (.dK _)=>True
  | some (.dT _)=>True
  | some (.set _ _)=>True
  | some (.ins _ _ _)=>True
  | some (.ext _)=>True
  | _=>False
section
variable {P:Program}{w:World}{H:Hp}{h h':Heap}{x e:Addr}{o':HO}
theorem HOk.write (ok:HOk P w H h) (mu:Mut (H x)) (he:e=x ∨ H e=some (.own x)) (k:∀ b u,b ≠ e->h.get? b=some u->h'.get? b=some u) (heo:∃ u,h'.get? e=some u)
    (new:ObjOk P w (upd H x o') h' x o'):HOk P w (upd H x o') h':=fun b u q=>by
  have nown:∀ c y,H c=some (.own y)->c ≠ x:=fun c y r z=>by subst z; rw [r] at mu; exact mu
  have ntup:∀ c xs,H c=some (.tup xs)->c ≠ x:=fun c xs r z=>by subst z; rw [r] at mu; exact mu
  by_cases hb:b=x
  · subst hb; rw [upd_same] at q; cases q; exact new
  · rw [upd_ne hb] at q
    by_cases hbe:b=e
    · have q':H b=some (.own x):=by
        rcases he with z | z
        · exact absurd (hbe.trans z) hb
        · rw [hbe]; exact z
      rw [q] at q'; cases q'
      obtain ⟨v,hv⟩:=heo
      exact ⟨v,by rw [hbe]; exact hv⟩
    · refine (ok b u q).stay (fun c v hc r=>k c v ?_ r) (fun c r=>by rw [upd_ne (nown c b r)]; exact r) fun c xs r=>by rw [upd_ne (ntup c xs r)]; exact r
      rcases hc with rfl | hc
      · exact hbe
      · rintro rfl
        rcases he with z | z
        · exact nown c b hc z
        · rw [hc] at z; cases z; exact hb rfl
end
structure Un (fs ex:List Addr) (H H':Hp) (h h':Heap):Prop where
  keep:∀ b o,h.get? b=some o->H b=none->b ∉ fs->b ∉ ex->h'.get? b=some o
  slot:∀ b o,h.get? b=some o->H b=none->b ∈ fs->b ∉ ex->∃ sl,h'.get? b=some { o with slots:=sl }
  free:∀ b o,h.get? b=some o->H b=none->b ∉ ex->H' b=none
  there:∀ b o,h.get? b=some o->b ∉ ex->∃ o',h'.get? b=some o'
  tups:∀ b xs,H b=some (.tup xs)->H' b=some (.tup xs)
  frzs:∀ b o u,H b=some (.frz o u)->H' b=some (.frz o u)
  tbls:∀ b ps,H b=some (.tbl ps)->∃ more,H' b=some (.tbl (ps ++ more))
section
variable {fs fs' ex ex':List Addr}{H H1 H2:Hp}{h h1 h2 h':Heap}{a x e:Addr}{o:HO}
theorem Un.any (u:Un fs ex H H1 h h1) {b:Addr}{ob:Obj} (q:h.get? b=some ob) (n:H b=none) (hx:b ∉ ex):∃ sl,h1.get? b=some { ob with slots:=sl }:=by
  by_cases hb:b ∈ fs
  · exact u.slot b ob q n hb hx
  · exact ⟨ob.slots,u.keep b ob q n hb hx⟩
theorem Un.kept (k:∀ b u,h.get? b=some u->h'.get? b=some u):Un fs ex H H h h' :=
  ⟨fun b ob q _ _ _=>k b ob q,fun b ob q _ _ _=>⟨ob.slots,k b ob q⟩,fun _ _ _ n _=>n,fun b ob q _=>⟨ob,k b ob q⟩,fun _ _ q=>q,fun _ _ _ q=>q,fun _ ps q=>⟨#[],by rw [q]; simp⟩⟩
theorem Un.refl : Un fs ex H H h h:=Un.kept fun _ _ q=>q
theorem Un.laid (k:∀ b u,h.get? b=some u->h'.get? b=some u) (hp:h.objs.size ≤ a) (hn:H a=none):Un fs ex H (upd H a o) h h' where
  keep:=fun b u q _ _ _=>k b u q
  slot:=fun b u q _ _ _=>⟨u.slots,k b u q⟩
  free:=fun b u q n _=>by rw [upd_ne (Nat.ne_of_lt (Nat.lt_of_lt_of_le (Heap.lt_size q) hp))]; exact n
  there:=fun b u q _=>⟨u,k b u q⟩
  tups:=fun b xs q=>by rw [upd_ne (ne_of_none q hn)]; exact q
  frzs:=fun b u xs q=>by rw [upd_ne (ne_of_none q hn)]; exact q
  tbls:=fun b ps q=>⟨#[],by rw [upd_ne (ne_of_none q hn),q]; simp⟩
theorem Un.write (mu:Mut (H x)) (he:e=x ∨ H e=some (.own x)) (k:∀ b u,b ≠ e->h.get? b=some u->h'.get? b=some u) (heo:∃ u,h'.get? e=some u):Un fs ex H (upd H x o) h h':=by
  have hx:∀ b,H b=none->b ≠ x:=fun b n z=>by subst z; rw [n] at mu; exact mu
  have hb:∀ b,H b=none->b ≠ e:=fun b n z=>by
    subst z
    rcases he with r | r
    · exact hx b n r
    · rw [n] at r; cases r
  have hm:∀ b u,H b=some u->¬ Mut (some u)->b ≠ x:=fun b u q nm z=>by subst z; rw [q] at mu; exact nm mu
  refine ⟨fun b u q n _ _=>k b u (hb b n) q,fun b u q n _ _=>⟨u.slots,k b u (hb b n) q⟩,fun b u q n _=>by rw [upd_ne (hx b n)]; exact n,fun b u q _=>?_,
    fun b xs q=>by rw [upd_ne (hm b _ q fun z=>z)]; exact q,fun b u xs q=>by rw [upd_ne (hm b _ q fun z=>z)]; exact q,fun b ps q=>⟨#[],by rw [upd_ne (hm b _ q fun z=>z),q]; simp⟩⟩
  by_cases hbe:b=e
  · subst hbe; exact heo
  · exact ⟨u,k b u hbe q⟩
end
def trk (h:Heap) (H:Hp):List Addr:=(List.range h.objs.size).filter fun a=>(H a).isSome
def hidT (h:Heap) (H:Hp):Heap:=PySem.W.hideAll h (trk h H)
theorem hidT_size (h:Heap) (H:Hp):(hidT h H).objs.size=h.objs.size:=PySem.W.hideAll_size _ _
theorem hidT_get {h:Heap}{H:Hp}{b:Addr}{o:Obj} (e:h.get? b=some o) (n:H b=none):(hidT h H).get? b=some o :=
  PySem.W.hideAll_get _ e fun hm=>by
    have q:(H b).isSome=true:=(List.mem_filter.mp hm).2
    rw [n] at q; simp at q
theorem of_hidT {h:Heap}{H:Hp}{b:Addr}{o:Obj} (e:(hidT h H).get? b=some o):h.get? b=some o∧H b=none:=by
  have e':h.get? b=some o:=PySem.W.of_hideAll (trk h H) e
  refine ⟨e',?_⟩
  cases q:H b with
  | none=>rfl
  | some x =>
    have hm:b ∈ trk h H:=List.mem_filter.mpr ⟨List.mem_range.mpr (Heap.lt_size e'),by simp [q]⟩
    have z:(hidT h H).get? b=none:=PySem.W.hideAll_none (trk h H) hm
    rw [z] at e; cases e
end L2
namespace L2
open PySem PySem.Spec PyProof.Rows
structure Mod (K:PySem.W.Frag) (mg:Str->Option Value) (base:Heap):Prop where
  kin:K.In base
  glob:base.Ns mainGlobals mg
  blt:∃ mb,base.Ns builtinsNs mb∧∀ x:Str,x ≠ "__name__" → mb x=bootBuiltins x
  nolimit:base.NoLimit
structure Cx where
  prog:Program
  w:World
  K:PySem.W.Frag
  mg:Str->Option Value
  base:Heap
  A:Around
  N:List Str
  s_0:Shared
  H_0:Hp
  env:Env
  outer:List Env
  stack:List Env
  ex:List Addr
  fn:Str->Bool
  calm:Bool
  pn:List (Addr × Obj)
  xe:Value->Shared->Prop
def frs (l:List Env):List Addr:=l.filterMap (·.frame)
abbrev Cx.fs (X:Cx):List Addr:=frs X.outer
def Vis (sc:Scope) (x:Str):Prop:=sc.names.lookup x=some .local ∨ sc.names.lookup x=some .cell ∨ sc.names.lookup x=some .free
def Loc (sc:Scope) (x:Str):Prop:=sc.names.lookup x=some .local ∨ sc.names.lookup x=some .cell
def Look (env:Env) (h:Heap) (m:Str->Option Value) (x:Str) (u:Value):Prop :=
  (env.kindOf x=some .local∧m x=some u) ∨ ((env.kindOf x=some .cell ∨ env.kindOf x=some .free)∧∃ c,env.cells.lookup x=some c∧h.IsCell c (some u))
structure Cx.Ok (X:Cx):Prop where
  mod:Mod X.K X.mg X.base
  kind:X.env.scope.kind = .function
  glob:X.env.globals=mainGlobals
  blt:X.env.builtins=builtinsNs
  above:X.s_0.heap.objs.size ≤ X.env.locals
  inj:∀ x y c,X.env.cells.lookup x=some c->X.env.cells.lookup y=some c->x=y
  has:∀ x,(X.env.kindOf x=some .cell ∨ X.env.kindOf x=some .free)->∃ c,X.env.cells.lookup x=some c
  cab:∀ x c,X.fn x=true->X.env.cells.lookup x=some c->X.s_0.heap.objs.size ≤ c
  hd:X.calm=true->X.A.handled=none
  frames:X.A.frames=some X.stack
  stk:X.stack=X.outer ∨ (X.stack=X.env :: X.outer∧X.env.frame=some X.env.locals)
  exf:∀ b ∈ X.ex,b ≠ X.env.locals∧∀ x c,X.env.cells.lookup x=some c->c ≠ b
  bs:∀ b o,X.base.get? b=some o->X.s_0.heap.get? b=some o∧X.H_0 b=none
  bsz:X.base.objs.size ≤ X.s_0.heap.objs.size
  noex:∀ b o,X.base.get? b=some o->b ∉ X.ex
  exfs:∀ b ∈ X.ex,b ∉ X.fs
  funs:X.s_0.heap.FunFrames X.base X.outer
  frf:∀ b ∈ X.fs,X.H_0 b=none
structure Inv (X:Cx) (pins:List (Addr × Obj)) (σ:List (Option V)) (H:Hp) (s:Shared):Prop where
  ok:X.Ok
  os:s.os=X.s_0.os
  bare:AllBare s.gens
  base:Un X.fs X.ex X.H_0 H X.s_0.heap s.heap
  loc:∃ m,s.heap.Ns X.env.locals m∧∀ (i:Nat) (x:Str) (v:V),X.N[i]?=some x->σ[i]?=some (some v)->Vis X.env.scope x->∃ u,RelV v u∧Look X.env s.heap m x u
  cell:∀ x c,X.env.cells.lookup x=some c->∃ v,s.heap.IsCell c v
  free:H X.env.locals=none
  freeC:∀ x c,X.env.cells.lookup x=some c->H c=none
  pin:∀ p ∈ X.pn ++ pins,s.heap.get? p.1=some p.2∧H p.1=none∧p.1 ≠ X.env.locals∧p.1 ∉ X.fs∧∀ v,p.2.data ≠ .cell v
  hok:HOk X.prog X.w H s.heap
  len:σ.length=X.N.length
section
variable {X:Cx}{pins:List (Addr × Obj)}{σ:List (Option V)}{H H':Hp}{s:Shared}{h':Heap}
theorem Cx.Ok.nofr (ok:X.Ok) {b:Addr}{o:Obj} (e:X.base.get? b=some o):b ∉ X.fs:=fun hb=>by
  have:=(ok.funs.mem hb).1
  rw [e] at this; cases this
theorem Inv.bs (I:Inv X pins σ H s):∀ b o,X.base.get? b=some o->s.heap.get? b=some o∧H b=none:=fun b o e =>
  ⟨I.base.keep b o (I.ok.bs b o e).1 (I.ok.bs b o e).2 (I.ok.nofr e) (I.ok.noex b o e),I.base.free b o (I.ok.bs b o e).1 (I.ok.bs b o e).2 (I.ok.noex b o e)⟩
theorem Inv.bk (I:Inv X pins σ H s):∀ b o,X.base.get? b=some o->s.heap.get? b=some o:=fun b o e=>(I.bs b o e).1
theorem Inv.mod (I:Inv X pins σ H s):Mod X.K X.mg X.base:=I.ok.mod
theorem Inv.kIn (I:Inv X pins σ H s):X.K.In s.heap:=I.ok.mod.kin.keeps I.bk
theorem Inv.lt (I:Inv X pins σ H s):X.env.locals < s.heap.objs.size:=let ⟨_,hn,_⟩:=I.loc; hn.lt
theorem Inv.sz (I:Inv X pins σ H s):X.s_0.heap.objs.size ≤ s.heap.objs.size:=Nat.le_trans I.ok.above (Nat.le_of_lt I.lt)
theorem Inv.nofs (I:Inv X pins σ H s) {a:Addr} (h:s.heap.objs.size ≤ a):a ∉ X.fs:=fun hb=>by
  obtain ⟨_,o,ho,_⟩:=I.ok.funs.mem hb
  exact absurd (Nat.lt_of_lt_of_le (Heap.lt_size ho) (Nat.le_trans I.sz h)) (Nat.lt_irrefl _)
theorem Inv.cne (I:Inv X pins σ H s):∀ x c,X.env.cells.lookup x=some c->c ≠ X.env.locals:=fun x c e z=>by
  obtain ⟨v,o,ho,hd⟩:=I.cell x c e
  obtain ⟨m,⟨o',es,ep,ho',hd',_⟩,_⟩:=I.loc
  rw [z,ho'] at ho; cases ho; rw [hd'] at hd; cases hd
theorem Inv.funs (I:Inv X pins σ H s):s.heap.FunFrames X.base X.outer:=by
  have all:∀ (l:List Env),(∀ b ∈ frs l,b ∈ X.fs)->X.s_0.heap.FunFrames X.base l->s.heap.FunFrames X.base l:=by
    intro l
    induction l with
    | nil=>intro _ _; trivial
    | cons env r ih =>
      intro hs hl
      obtain ⟨hk,⟨L,o,hf,hn,ho,hd⟩,hr⟩:=hl
      have hL:L ∈ X.fs:=hs L (by unfold frs; rw [List.filterMap_cons,hf]; exact List.mem_cons_self)
      obtain ⟨sl,e⟩:=I.base.slot L o ho (I.ok.frf L hL) hL fun z=>I.ok.exfs L z hL
      exact ⟨hk,⟨L,_,hf,hn,e,hd⟩,ih (fun b hb=>hs b (by unfold frs; rw [List.filterMap_cons,hf]; exact List.mem_cons_of_mem _ hb)) hr⟩
  exact all X.outer (fun _ hb=>hb) I.ok.funs
theorem Inv.stack (I:Inv X pins σ H s):s.heap.FunFrames X.base X.stack:=by
  rcases I.ok.stk with e | ⟨e,hf⟩
  · rw [e]; exact I.funs
  · rw [e]
    obtain ⟨m,hn,_⟩:=I.loc
    refine .cons (by rw [I.ok.kind]; decide) hf hn ?_ I.funs
    exact Heap.get?_none_of_le (Nat.le_trans I.ok.bsz I.ok.above)
theorem Inv.stkSub (I:Inv X pins σ H s):∀ b ∈ frs X.stack,b ∈ X.env.locals :: X.fs:=fun b hb=>by
  rcases I.ok.stk with e | ⟨e,hf⟩
  · rw [e] at hb; exact List.mem_cons_of_mem _ hb
  · rw [e] at hb
    unfold frs at hb
    rw [List.filterMap_cons,hf] at hb
    exact hb
theorem Inv.stkFree (I:Inv X pins σ H s):∀ b ∈ frs X.stack,H b=none:=fun b hb=>by
  rcases List.mem_cons.mp (I.stkSub b hb) with e | hb
  · rw [e]; exact I.free
  · obtain ⟨_,o,ho,_⟩:=I.ok.funs.mem hb
    exact I.base.free b o ho (I.ok.frf b hb) fun z=>I.ok.exfs b z hb
theorem Inv.step {g':Array GenState}{t':Nat}{d':Drawn}{ch:List Addr} (I:Inv X pins σ H s)
    (hch:∀ b ∈ ch,(b ∈ X.ex ∨ X.s_0.heap.objs.size ≤ b)∧b ≠ X.env.locals∧(∀ x c,X.env.cells.lookup x=some c->c ≠ b)∧∀ p ∈ X.pn ++ pins,p.1 ≠ b)
    (keep:∀ b o,b ≠ X.env.locals->b ∉ X.fs->b ∉ ch->s.heap.get? b=some o->H b=none->h'.get? b=some o)
    (slot:∀ b o,b ≠ X.env.locals->b ∈ X.fs->b ∉ ch->s.heap.get? b=some o->H b=none->∃ sl,h'.get? b=some { o with slots:=sl }) (free:∀ b o,b ∉ ch->s.heap.get? b=some o->H b=none->H' b=none)
    (there:∀ b o,b ∉ ch->s.heap.get? b=some o->∃ o',h'.get? b=some o')
    (tups:∀ b xs,H b=some (.tup xs)->H' b=some (.tup xs)) (frzs:∀ b o u,H b=some (.frz o u)->H' b=some (.frz o u)) (tbls:∀ b ps,H b=some (.tbl ps)->∃ more,H' b=some (.tbl (ps ++ more)))
    (ns:∀ m,s.heap.Ns X.env.locals m->h'.Ns X.env.locals m) (hok:HOk X.prog X.w H' h') (hg:AllBare g') :
    Inv X pins σ H' { s with heap:=h',gens:=g',drawn:=d',toks:=t' }:=by
  have neL:∀ b o,X.s_0.heap.get? b=some o->b ≠ X.env.locals:=fun b o e=>Nat.ne_of_lt (Nat.lt_of_lt_of_le (Heap.lt_size e) I.ok.above)
  have neC:∀ b o,X.s_0.heap.get? b=some o->b ∉ X.ex->b ∉ ch:=fun b o e hx hb=>by
    rcases (hch b hb).1 with z | z
    · exact hx z
    · exact absurd (Nat.lt_of_lt_of_le (Heap.lt_size e) z) (Nat.lt_irrefl _)
  have cellK:∀ x c,X.env.cells.lookup x=some c->∀ v,s.heap.IsCell c v->h'.IsCell c v:=fun x c e v ⟨o,ho,hd⟩=>by
    have nch:c ∉ ch:=fun z=>(hch c z).2.2.1 x c e rfl
    by_cases hc:c ∈ X.fs
    · obtain ⟨sl,q⟩:=slot c o (I.cne x c e) hc nch ho (I.freeC x c e)
      exact ⟨_,q,hd⟩
    · exact ⟨o,keep c o (I.cne x c e) hc nch ho (I.freeC x c e),hd⟩
  refine ⟨I.ok,I.os,hg,⟨fun b o e n hb hx=>?_,fun b o e n hb hx=>?_,fun b o e n hx=>?_,fun b o e hx=>?_,fun b xs e=>tups b xs (I.base.tups b xs e),fun b o xs e=>frzs b o xs (I.base.frzs b o xs e),fun b ps e=>?_⟩,?_,fun x c e=>?_,?_,fun x c e=>?_,fun p hp=>?_,hok,I.len⟩
  · exact keep b o (neL b o e) hb (neC b o e hx) (I.base.keep b o e n hb hx) (I.base.free b o e n hx)
  · obtain ⟨sl,e1⟩:=I.base.slot b o e n hb hx
    obtain ⟨sl',e2⟩:=slot b _ (neL b o e) hb (neC b o e hx) e1 (I.base.free b o e n hx)
    exact ⟨sl',e2⟩
  · obtain ⟨o',e1⟩:=I.base.there b o e hx
    exact free b o' (neC b o e hx) e1 (I.base.free b o e n hx)
  · obtain ⟨o',e1⟩:=I.base.there b o e hx
    exact there b o' (neC b o e hx) e1
  · obtain ⟨m1,e1⟩:=I.base.tbls b ps e
    obtain ⟨m2,e2⟩:=tbls b _ e1
    exact ⟨m1 ++ m2,by rw [e2,Array.append_assoc]⟩
  · obtain ⟨m,hn,hl⟩:=I.loc
    refine ⟨m,ns m hn,fun i x v e1 e2 e3=>?_⟩
    obtain ⟨u,r,l⟩:=hl i x v e1 e2 e3
    refine ⟨u,r,?_⟩
    rcases l with l | ⟨k,c,e,z⟩
    · exact .inl l
    · exact .inr ⟨k,c,e,cellK x c e _ z⟩
  · obtain ⟨v,z⟩:=I.cell x c e
    exact ⟨v,cellK x c e v z⟩
  · obtain ⟨m,⟨o,_,_,ho,_⟩,_⟩:=I.loc
    exact free _ o (fun z=>(hch _ z).2.1 rfl) ho I.free
  · obtain ⟨v,o,ho,hd⟩:=I.cell x c e
    exact free c o (fun z=>(hch c z).2.2.1 x c e rfl) ho (I.freeC x c e)
  · obtain ⟨e,n,ne,nf,d⟩:=I.pin p hp
    have nch:p.1 ∉ ch:=fun z=>(hch p.1 z).2.2.2 p hp rfl
    exact ⟨keep p.1 p.2 ne nf nch e n,free p.1 p.2 nch e n,ne,nf,d⟩
theorem Inv.un {t':Nat} (I:Inv X pins σ H s) (u:Un X.fs [] H H' s.heap h') (hok:HOk X.prog X.w H' h'):Inv X pins σ H' { s with heap:=h',toks:=t' }:=by
  obtain ⟨m,⟨o,es,ep,ho,r⟩,_⟩:=id I.loc
  obtain ⟨sl,hL⟩:=u.any ho I.free (by simp)
  exact I.step (g':=s.gens) (d':=s.drawn) (ch:=[]) (fun _ z=>nomatch z) (fun b o _ hb _ e n=>u.keep b o e n hb (by simp)) (fun b o _ hb _ e n=>u.slot b o e n hb (by simp)) (fun b o _ e n=>u.free b o e n (by simp)) (fun b o _ e=>u.there b o e (by simp)) u.tups u.frzs u.tbls (fun m' hm=>by
    obtain ⟨o',es',ep',ho',r'⟩:=hm
    rw [ho] at ho'; cases ho'
    exact ⟨_,es',ep',hL,r'⟩) hok I.bare
theorem Inv.call {g':Array GenState}{t':Nat}{d':Drawn}{ch:List Addr} (I:Inv X pins σ H s) (u:Un (frs X.stack) ch H H' s.heap h') (hok:HOk X.prog X.w H' h') (hg:AllBare g')
    (hch:∀ b ∈ ch,(b ∈ X.ex ∨ X.s_0.heap.objs.size ≤ b)∧b ≠ X.env.locals∧(∀ x c,X.env.cells.lookup x=some c->c ≠ b)∧∀ p ∈ X.pn ++ pins,p.1 ≠ b) :
    Inv X pins σ H' { s with heap:=h',gens:=g',drawn:=d',toks:=t' }:=by
  obtain ⟨m,⟨o,es,ep,ho,r⟩,_⟩:=id I.loc
  obtain ⟨sl,hL⟩:=u.any ho I.free fun z=>(hch _ z).2.1 rfl
  exact I.step (ch:=ch) hch (fun b o hL hb hc e n=>u.keep b o e n (fun z=>(List.mem_cons.mp (I.stkSub b z)).elim hL hb) hc) (fun b o _ _ hc e n=>u.any e n hc) (fun b o hc e n=>u.free b o e n hc) (fun b o hc e=>u.there b o e hc) u.tups u.frzs u.tbls (fun m' hm=>by
    obtain ⟨o',es',ep',ho',r'⟩:=hm
    rw [ho] at ho'; cases ho'
    exact ⟨_,es',ep',hL,r'⟩) hok hg
theorem Inv.turned {t':Nat}{it:Addr} (I:Inv X pins σ H s) (k:∀ b o,b ≠ it->s.heap.get? b=some o->h'.get? b=some o) (hn:H it=none) (hL:it ≠ X.env.locals)
    (h1:it ∈ X.ex ∨ X.s_0.heap.objs.size ≤ it) (h2:∀ x c,X.env.cells.lookup x=some c->c ≠ it) (h3:∀ p ∈ X.pn ++ pins,p.1 ≠ it):Inv X pins σ H { s with heap:=h',toks:=t' }:=by
  have nit:∀ b u,H b=some u->b ≠ it:=fun b u e z=>by rw [z,hn] at e; cases e
  refine I.step (g':=s.gens) (d':=s.drawn) (ch:=[it]) (fun b hb=>?_) (fun b o _ _ hc e _=>k b o (fun z=>hc (by simp [z])) e) (fun b o _ _ hc e _=>⟨o.slots,k b o (fun z=>hc (by simp [z])) e⟩) (fun _ _ _ _ n=>n)
    (fun b o hc e=>⟨o,k b o (fun z=>hc (by simp [z])) e⟩) (fun _ _ e=>e) (fun _ _ _ e=>e) (fun b ps e=>⟨#[],by rw [e]; simp⟩) (fun m hm=>?_) (fun b u e=>?_) I.bare
  · have e:b=it:=by simpa using hb
    subst e
    exact ⟨h1,hL,h2,h3⟩
  · obtain ⟨o,es,ep,ho,r⟩:=hm
    exact ⟨o,es,ep,k _ o (Ne.symm hL) ho,r⟩
  · refine (I.hok b u e).stay (fun c v hc q=>k c v ?_ q) (fun _ q=>q) fun _ _ q=>q
    rcases hc with z | z
    · rw [z]; exact nit b u e
    · exact nit c _ z
theorem Inv.tok (I:Inv X pins σ H s) (t:Nat):Inv X pins σ H { s with toks:=t }:=I.un (h':=s.heap) (t':=t) Un.refl I.hok
theorem Inv.kept {t':Nat} (I:Inv X pins σ H s) (k:∀ b u,s.heap.get? b=some u->h'.get? b=some u):Inv X pins σ H { s with heap:=h',toks:=t' }:=I.un (Un.kept k) (I.hok.kept k)
theorem Inv.laid {a:Addr}{o:HO}{t':Nat} (I:Inv X pins σ H s) (k:∀ b u,s.heap.get? b=some u->h'.get? b=some u) (hp:s.heap.objs.size ≤ a) (new:ObjOk X.prog X.w (upd H a o) h' a o) :
    Inv X pins σ (upd H a o) { s with heap:=h',toks:=t' }:=I.un (Un.laid k hp (I.hok.fresh hp)) (I.hok.laid k hp new)
theorem Inv.write {x e:Addr}{o:HO}{t':Nat} (I:Inv X pins σ H s) (mu:Mut (H x)) (he:e=x ∨ H e=some (.own x)) (k:∀ b u,b ≠ e->s.heap.get? b=some u->h'.get? b=some u) (heo:∃ u,h'.get? e=some u)
    (new:ObjOk X.prog X.w (upd H x o) h' x o):Inv X pins σ (upd H x o) { s with heap:=h',toks:=t' }:=I.un (Un.write mu he k heo) (I.hok.write mu he k heo new)
theorem Inv.weak {σ':List (Option V)} (I:Inv X pins σ H s) (hl:σ'.length=σ.length) (w:∀ (i:Nat) v,σ'[i]?=some (some v)->σ[i]?=some (some v)):Inv X pins σ' H s :=
  ⟨I.ok,I.os,I.bare,I.base,let ⟨m,hn,hl'⟩:=I.loc; ⟨m,hn,fun i x v e1 e2 e3=>hl' i x v e1 (w i v e2) e3⟩,I.cell,I.free,I.freeC,I.pin,I.hok,hl.trans I.len⟩
theorem Inv.pins_of {pins':List (Addr × Obj)} (I:Inv X pins σ H s) (h:∀ p ∈ pins',s.heap.get? p.1=some p.2∧H p.1=none∧p.1 ≠ X.env.locals∧p.1 ∉ X.fs∧∀ v,p.2.data ≠ .cell v):Inv X pins' σ H s :=
  ⟨I.ok,I.os,I.bare,I.base,I.loc,I.cell,I.free,I.freeC,fun p hp=>(List.mem_append.mp hp).elim (fun z=>I.pin p (List.mem_append_left _ z)) (h p),I.hok,I.len⟩
theorem nodup_ix {N:List Str} (hN:N.Nodup) {i j:Nat}{x:Str} (a:N[i]?=some x) (b:N[j]?=some x):i=j:=by
  obtain ⟨h1,e1⟩:=List.getElem?_eq_some_iff.mp a
  obtain ⟨h2,e2⟩:=List.getElem?_eq_some_iff.mp b
  exact (List.getElem_inj hN).mp (e1.trans e2.symm)
theorem store_ok2 {M:Model}{A:Around}{E:Value->Shared->Prop}{i:Nat}{x:Str}{v:V}{u:Value}{Q:Unit->Shared->Prop} (I:Inv X pins σ H s) (hN:X.N.Nodup) (hi:X.N[i]?=some x) (hx:Loc X.env.scope x) (r:RelV v u)
    (h:∀ s',Inv X pins (σ.set i (some v)) H s'->(∃ a,Heap.SameBut a s.heap s'.heap∧(a=X.env.locals ∨ X.env.cells.lookup x=some a))->Q () s') (hf:X.fn x=true ∨ X.env.scope.names.lookup x=some .local:=by first | exact .inl rfl | exact .inr rfl | assumption):wpAny M A (storeName X.env x u) Q E s:=by
  obtain ⟨m,hn,hl⟩:=id I.loc
  have hcls:(X.env.scope.kind == .class || (X.env.scope.kind == .module && X.env.locals != X.env.globals))=false:=by rw [I.ok.kind]; rfl
  have hiσ:i < σ.length:=by rw [I.len]; exact (List.getElem?_eq_some_iff.mp hi).1
  have cne:=I.cne
  have tracked:∀ {a:Addr}{h':Heap},(∃ o,s.heap.get? a=some o∧H a=none)->Heap.SameBut a s.heap h'->HOk X.prog X.w H h':=fun {a h'} ha hs b ob e=>by
    obtain ⟨_,_,hfree⟩:=ha
    refine (I.hok b ob e).stay (fun c w' hc q=>(hs.2 c ?_).trans q) (fun _ q=>q) fun _ _ q=>q
    rintro rfl
    rcases hc with rfl | hc
    · rw [hfree] at e; cases e
    · rw [hfree] at hc; cases hc
  rcases hx with hk | hk
  · refine wpAny_storeName_local hk hn (fun h' hn' hs=>?_) hcls
    obtain ⟨oL,_,_,hoL,_⟩:=id hn
    refine h _ ⟨I.ok,I.os,I.bare,⟨fun b o e n hb hx=>?_,fun b o e n hb hx=>?_,I.base.free,fun b o e hx=>?_,I.base.tups,I.base.frzs,I.base.tbls⟩,⟨_,hn',fun j y v' e1 e2 e3=>?_⟩,fun y c e=>?_,I.free,I.freeC,fun p hp=>?_,tracked ⟨oL,hoL,I.free⟩ hs,by simpa using I.len⟩ ⟨_,hs,.inl rfl⟩
    · exact (hs.2 b (Nat.ne_of_lt (Nat.lt_of_lt_of_le (Heap.lt_size e) I.ok.above))).trans (I.base.keep b o e n hb hx)
    · obtain ⟨sl,e1⟩:=I.base.slot b o e n hb hx
      exact ⟨sl,(hs.2 b (Nat.ne_of_lt (Nat.lt_of_lt_of_le (Heap.lt_size e) I.ok.above))).trans e1⟩
    · obtain ⟨o',e1⟩:=I.base.there b o e hx
      exact ⟨o',(hs.2 b (Nat.ne_of_lt (Nat.lt_of_lt_of_le (Heap.lt_size e) I.ok.above))).trans e1⟩
    · by_cases hj:j=i
      · subst hj
        rw [hi] at e1; cases e1
        rw [List.getElem?_set_self hiσ] at e2
        cases e2
        exact ⟨u,r,.inl ⟨hk,by simp⟩⟩
      · rw [List.getElem?_set_ne (Ne.symm hj)] at e2
        obtain ⟨u',r',q⟩:=hl j y v' e1 e2 e3
        refine ⟨u',r',?_⟩
        rcases q with ⟨k,e⟩ | ⟨k,c,e,z⟩
        · refine .inl ⟨k,?_⟩
          have:y ≠ x:=fun e=>hj (nodup_ix hN e1 (e ▸ hi))
          simp [this,e]
        · exact .inr ⟨k,c,e,z.sameBut hs (cne y c e)⟩
    · obtain ⟨w',z⟩:=I.cell y c e
      exact ⟨w',z.sameBut hs (cne y c e)⟩
    · obtain ⟨e,n,ne,nf,d⟩:=I.pin p hp
      exact ⟨(hs.2 p.1 ne).trans e,n,ne,nf,d⟩
  · have hfn:X.fn x=true:=by
      rcases hf with z | z
      · exact z
      · rw [z] at hk; cases hk
    obtain ⟨c,hc⟩:=I.ok.has x (.inl hk)
    obtain ⟨w',z⟩:=I.cell x c hc
    refine wpAny_storeName_cell I.ok.kind hk hc z (fun h' hc' hs=>?_)
    obtain ⟨oc,hoc,hocd⟩:=id z
    refine h { s with heap:=h' } ⟨I.ok,I.os,I.bare,⟨fun b o e n hb hx=>?_,fun b o e n hb hx=>?_,I.base.free,fun b o e hx=>?_,I.base.tups,I.base.frzs,I.base.tbls⟩,⟨m,hn.sameBut hs (Ne.symm (cne x c hc)),fun j y v' e1 e2 e3=>?_⟩,fun y c' e=>?_,I.free,I.freeC,fun p hp=>?_,tracked ⟨oc,hoc,I.freeC x c hc⟩ hs,by simpa using I.len⟩ ⟨c,hs,.inr hc⟩
    · exact (hs.2 b (Nat.ne_of_lt (Nat.lt_of_lt_of_le (Heap.lt_size e) (I.ok.cab x c hfn hc)))).trans (I.base.keep b o e n hb hx)
    · obtain ⟨sl,e1⟩:=I.base.slot b o e n hb hx
      exact ⟨sl,(hs.2 b (Nat.ne_of_lt (Nat.lt_of_lt_of_le (Heap.lt_size e) (I.ok.cab x c hfn hc)))).trans e1⟩
    · obtain ⟨o',e1⟩:=I.base.there b o e hx
      exact ⟨o',(hs.2 b (Nat.ne_of_lt (Nat.lt_of_lt_of_le (Heap.lt_size e) (I.ok.cab x c hfn hc)))).trans e1⟩
    · by_cases hj:j=i
      · subst hj
        rw [hi] at e1; cases e1
        rw [List.getElem?_set_self hiσ] at e2
        cases e2
        exact ⟨u,r,.inr ⟨.inl hk,c,hc,hc'⟩⟩
      · rw [List.getElem?_set_ne (Ne.symm hj)] at e2
        obtain ⟨u',r',q⟩:=hl j y v' e1 e2 e3
        refine ⟨u',r',?_⟩
        rcases q with q | ⟨k,c',e,z'⟩
        · exact .inl q
        · refine .inr ⟨k,c',e,z'.sameBut hs ?_⟩
          rintro rfl
          exact hj (nodup_ix hN e1 (I.ok.inj _ _ _ e hc ▸ hi))
    · by_cases hcc:c'=c
      · subst hcc; exact ⟨_,hc'⟩
      · obtain ⟨w2,z2⟩:=I.cell y c' e
        exact ⟨w2,z2.sameBut hs hcc⟩
    · obtain ⟨e,n,ne,nf,d⟩:=I.pin p hp
      refine ⟨(hs.2 p.1 ?_).trans e,n,ne,nf,d⟩
      intro q
      rw [q,hoc] at e
      have q':oc=p.2:=Option.some.inj e
      exact d w' (by rw [← q']; exact hocd)
theorem store_ok {M:Model}{A:Around}{E:Value->Shared->Prop}{i:Nat}{x:Str}{v:V}{u:Value}{Q:Unit->Shared->Prop} (I:Inv X pins σ H s) (hN:X.N.Nodup) (hi:X.N[i]?=some x) (hx:Loc X.env.scope x) (r:RelV v u)
    (h:∀ s',Inv X pins (σ.set i (some v)) H s'->Q () s') (hf:X.fn x=true ∨ X.env.scope.names.lookup x=some .local:=by first | exact .inl rfl | exact .inr rfl | assumption):wpAny M A (storeName X.env x u) Q E s :=
  store_ok2 I hN hi hx r (fun s' I' _=>h s' I') hf
theorem Inv.call' {s':Shared}{ch:List Addr} (I:Inv X pins σ H s) (ho:s'.os=s.os) (u:Un (frs X.stack) ch H H' s.heap s'.heap) (hok:HOk X.prog X.w H' s'.heap) (hg:AllBare s'.gens)
    (hch:∀ b ∈ ch,(b ∈ X.ex ∨ X.s_0.heap.objs.size ≤ b)∧b ≠ X.env.locals∧(∀ x c,X.env.cells.lookup x=some c->c ≠ b)∧∀ p ∈ X.pn ++ pins,p.1 ≠ b):Inv X pins σ H' s':=by
  obtain ⟨h',g',d',t',o'⟩:=s'
  have e:o'=s.os:=ho
  subst e
  exact I.call (g':=g') (t':=t') (d':=d') u hok hg hch
end
abbrev XK:=Value->Option Addr->Hp->Prop
abbrev St:=List (Option V)
abbrev VK:=V->Hp->Prop
abbrev TE:=St->Hp->VK->Prop
abbrev TT:=St->Hp->(Bool->Hp->Prop)->Prop
abbrev TA:=St->Hp->(List V->Hp->Prop)->Prop
structure Ends where
  nx:St->Hp->Prop
  rt:VK
  bk:St->Hp->Prop:=fun _ _=>False
  ct:St->Hp->Prop:=fun _ _=>False
abbrev TS:=Ends->St->Hp->Prop
def EP (X:Cx) (pins:List (Addr × Obj)) (σ:St) (Q:VK) (u:Value) (s':Shared):Prop:=∃ v H',Inv X pins σ H' s'∧RelV v u∧Q v H'
def TP (X:Cx) (pins:List (Addr × Obj)) (σ:St) (Q:Bool->Hp->Prop) (b:Bool) (s':Shared):Prop:=∃ H',Inv X pins σ H' s'∧Q b H'
def AP (X:Cx) (pins:List (Addr × Obj)) (σ:St) (Q:List V->Hp->Prop) (us:List Value) (s':Shared):Prop:=∃ vs H',Inv X pins σ H' s'∧Vals vs us∧Q vs H'
def SP (X:Cx) (pins:List (Addr × Obj)) (D:Ends) (f:Flow) (s':Shared):Prop :=
  match f with
  | .next=>∃ σ' H',Inv X pins σ' H' s'∧D.nx σ' H'
  | .brk=>∃ σ' H',Inv X pins σ' H' s'∧D.bk σ' H'
  | .cont=>∃ σ' H',Inv X pins σ' H' s'∧D.ct σ' H'
  | .ret u=>∃ v σ' H',Inv X pins σ' H' s'∧RelV v u∧D.rt v H'
def PE (X:Cx) (e:Expr) (t:TE):Prop :=
  ∀ (pins:List (Addr × Obj)) (s:Shared) (σ:St) (H:Hp) (Q:VK),Inv X pins σ H s->t σ H Q->wpAny (model X.prog X.w) X.A (eval e X.env) (EP X pins σ Q) X.xe s
def PT (X:Cx) (e:Expr) (t:TT):Prop :=
  ∀ (pins:List (Addr × Obj)) (s:Shared) (σ:St) (H:Hp) (Q:Bool->Hp->Prop),Inv X pins σ H s->t σ H Q->wpAny (model X.prog X.w) X.A (isTrue e X.env (eval e X.env)) (TP X pins σ Q) X.xe s
def PW (X:Cx) (e:Expr) (t:TT):Prop :=
  ∀ (whole:Sem Value) (pins:List (Addr × Obj)) (s:Shared) (σ:St) (H:Hp) (Q:Bool->Hp->Prop),Inv X pins σ H s->t σ H Q->wpAny (model X.prog X.w) X.A (isTrue e X.env whole) (TP X pins σ Q) X.xe s
theorem PW.pt {X:Cx}{e:Expr}{t:TT} (h:PW X e t):PT X e t:=h _
def PA (X:Cx) (es:List Expr) (t:TA):Prop :=
  ∀ (pos:Pos) (pins:List (Addr × Obj)) (s:Shared) (σ:St) (H:Hp) (Q:List V->Hp->Prop),Inv X pins σ H s->t σ H Q->wpAny (model X.prog X.w) X.A (spliced (backTo pos (starEach es X.env))) (AP X pins σ Q) X.xe s
def PS (X:Cx) (st:Stmt) (t:TS):Prop :=
  ∀ (pins:List (Addr × Obj)) (s:Shared) (σ:St) (H:Hp) (D:Ends),Inv X pins σ H s->t D σ H->wpAny (model X.prog X.w) X.A (exec st X.env) (SP X pins D) X.xe s
def PSs (X:Cx) (st:List Stmt) (t:TS):Prop :=
  ∀ (pins:List (Addr × Obj)) (s:Shared) (σ:St) (H:Hp) (D:Ends),Inv X pins σ H s->t D σ H->wpAny (model X.prog X.w) X.A (execs st X.env) (SP X pins D) X.xe s
theorem thn {α:Type}{t:Sem α}{Q Q':α->Shared->Prop}{M:Model}{A:Around}{E:Value->Shared->Prop}{s:Shared} (h:wpAny M A t Q E s) (hQ:∀ a s,Q a s->Q' a s):wpAny M A t Q' E s:=wpAny_mono h hQ fun _ _ x=>x
end L2
namespace L2
open PySem PySem.Spec PyProof.Rows
section
variable {X:Cx}
def tVar (i:Nat):TE:=fun σ H Q=>∃ v,σ[i]?=some (some v)∧Q v H
def tC (v:V):TE:=fun _ H Q=>Q v H
theorem pe_var {i:Nat}{x:Str}{pos:Pos} (hN:X.N[i]?=some x) (hv:Vis X.env.scope x) (hd:(x == ("__debug__" : Str))=false:=by decide) (hcd:(x == ("__classdict__" : Str))=false:=by decide):PE X (.Name x pos) (tVar i):=by
  intro pins s σ H Q I h
  obtain ⟨v,e,h⟩:=h
  obtain ⟨m,hn,hl⟩:=I.loc
  obtain ⟨u,r,l⟩:=hl i x v hN e hv
  have fin:EP X pins σ Q u s:=⟨v,H,I,r,h⟩
  rcases l with ⟨hk,hm⟩ | ⟨hk,c,hc,hcell⟩
  · exact wpAny_Name (wpAny_loadName_local I.ok.kind hk hn hm fin) hd
  · rcases hk with hk | hk
    · exact wpAny_Name (wpAny_loadName_cell I.ok.kind hk hc hcell fin) hd
    · exact wpAny_Name (wpAny_loadName_free I.ok.kind hk hc hcell fin hcd) hd
theorem pe_int {i j pos}:PE X (.Constant (.int i) j pos) (tC (.int i)):=fun _ _ _ H _ I h=>wpAny_Constant_int ⟨.int i,H,I.tok _,⟨_,rfl⟩,h⟩
theorem pe_bl {b j pos}:PE X (.Constant (.bool b) j pos) (tC (.bl b)):=fun _ _ _ H _ I h=>Constant_bool ⟨.bl b,H,I,rfl,h⟩
theorem pe_non {j pos}:PE X (.Constant .none j pos) (tC .non):=fun _ _ _ H _ I h=>Constant_none ⟨.non,H,I,rfl,h⟩
def Gl (X:Cx) (x:Str):Prop:=X.env.kindOf x=some .globalImplicit
theorem ld_glob {E:Value->Shared->Prop}{pins:List (Addr × Obj)}{s:Shared}{σ:St}{H:Hp}{x:Str}{u:Value}{pos:Pos}{Q:Value->Shared->Prop} (I:Inv X pins σ H s) (hg:Gl X x) (hm:X.mg x=some u) (h:Q u s)
    (hd:(x == ("__debug__" : Str))=false:=by decide):wpAny (model X.prog X.w) X.A (eval (.Name x pos) X.env) Q E s :=
  Calls.Name_function_global I.ok.kind hg (Calls.loadGlobal_global (by rw [I.ok.glob]; exact I.mod.glob.keeps I.bk) hm h) hd
theorem ld_blt {E:Value->Shared->Prop}{pins:List (Addr × Obj)}{s:Shared}{σ:St}{H:Hp}{x:Str}{u:Value}{pos:Pos}{Q:Value->Shared->Prop} (I:Inv X pins σ H s) (hg:Gl X x) (hm:X.mg x=none) (hv:bootBuiltins x=some u) (h:Q u s)
    (hn:x ≠ "__name__" := by decide) (hd:(x == ("__debug__" : Str))=false:=by decide):wpAny (model X.prog X.w) X.A (eval (.Name x pos) X.env) Q E s:=by
  obtain ⟨mb,h1,h2⟩:=I.mod.blt
  exact Calls.Name_function_global I.ok.kind hg (Calls.loadGlobal_builtin (by rw [I.ok.glob]; exact I.mod.glob.keeps I.bk) hm (by rw [I.ok.blt]; exact h1.keeps I.bk) ((h2 x hn).trans hv) h) hd
theorem pe_glob {x:Str}{v:V}{u:Value}{pos:Pos} (hg:Gl X x) (hm:X.mg x=some u) (r:RelV v u) (hd:(x == ("__debug__" : Str))=false:=by decide):PE X (.Name x pos) (tC v) :=
  fun _ _ _ H _ I h=>ld_glob I hg hm ⟨v,H,I,r,h⟩ hd
variable {a b:Expr}{ta tb:TE}{pos:Pos}
def PC (X:Cx) (op:CmpOp) (a b:Expr) (t:TE):Prop :=
  ∀ (pins:List (Addr × Obj)) (s:Shared) (σ:St) (H:Hp) (Q:VK),Inv X pins σ H s->t σ H Q →
    wpAny (model X.prog X.w) X.A (eval a X.env) (fun v s₁=>wpAny (model X.prog X.w) X.A (eval b X.env) (fun u s₂=>wpAny (model X.prog X.w) X.A (compareOp op v u) (EP X pins σ Q) X.xe s₂) X.xe s₁) X.xe s
def tB (t:TE):TT:=fun σ H Q=>t σ H fun x H1=>∃ c,x = .bl c∧Q c H1
theorem pt_cmp {op:CmpOp}{t:TE} (h:PC X op a b t) (h1:behindInMarks op b=false:=by first | exact nobehind _ (by decide) (by decide) | rfl):PT X (.Compare a [op] [b] pos) (tB t):=by
  intro pins s σ H Q I hw
  refine wpAny_isTrue_Compare1 (thn (h pins s σ H _ I hw) fun v s1 h1=>thn h1 fun u s2 h2=>thn h2 fun c s3 ⟨x,H1,I1,r1,q1⟩=>?_) h1
  obtain ⟨d,rfl,q⟩:=q1
  cases r1
  exact wpAny_truthy_bool ⟨H1,I1,q⟩
theorem pt_val {e:Expr}{t:TE} (h:PE X e t) (he:∀ whole,isTrue e X.env whole=(do let v ← whole; standAt e.pos; holding [v] (truthy v)):=by intro _; rfl):PT X e (tB t):=by
  intro pins s σ H Q I hw
  refine isTrue_plain (thn (h pins s σ H _ I hw) fun v s1 ⟨x,H1,I1,r1,q1⟩=>?_) (he _)
  obtain ⟨d,rfl,q⟩:=q1
  cases r1
  exact wpAny_truthy_bool ⟨H1,I1,q⟩
variable {tA tB':TT}{rest:List Expr}
def tAnd (t u:TT):TT:=fun σ H Q=>t σ H fun c H1=>if c=true then u σ H1 Q else Q false H1
def tOr (t u:TT):TT:=fun σ H Q=>t σ H fun c H1=>if c=true then Q true H1 else u σ H1 Q
def tNot (t:TT):TT:=fun σ H Q=>t σ H fun c H1=>Q (!c) H1
theorem pw_and1 (ha:PT X a tA):PW X (.BoolOp .And [a] pos) tA:=by
  intro wh pins s σ H Q I h
  refine isTrue_and (thn (ha pins s σ H Q I h) fun c s1 e=>?_)
  cases c with
  | true=>exact isTrue_and_nil e
  | false=>exact e
theorem pw_or1 (ha:PT X a tA):PW X (.BoolOp .Or [a] pos) tA:=by
  intro wh pins s σ H Q I h
  refine isTrue_or (thn (ha pins s σ H Q I h) fun c s1 e=>?_)
  cases c with
  | false=>exact isTrue_or_nil e
  | true=>exact e
theorem pw_and (ha:PT X a tA) (hb:PW X (.BoolOp .And (b :: rest) pos) tB'):PW X (.BoolOp .And (a :: b :: rest) pos) (tAnd tA tB'):=by
  intro wh pins s σ H Q I h
  refine isTrue_and (thn (ha pins s σ H _ I h) fun c s1 ⟨H1,I1,q1⟩=>?_)
  cases c with
  | true=>exact hb wh pins s1 σ H1 Q I1 q1
  | false=>exact ⟨H1,I1,q1⟩
theorem pw_or (ha:PT X a tA) (hb:PW X (.BoolOp .Or (b :: rest) pos) tB'):PW X (.BoolOp .Or (a :: b :: rest) pos) (tOr tA tB'):=by
  intro wh pins s σ H Q I h
  refine isTrue_or (thn (ha pins s σ H _ I h) fun c s1 ⟨H1,I1,q1⟩=>?_)
  cases c with
  | true=>exact ⟨H1,I1,q1⟩
  | false=>exact hb wh pins s1 σ H1 Q I1 q1
theorem pt_not (ha:PT X a tA):PT X (.UnaryOp .Not a pos) (tNot tA):=by
  intro pins s σ H Q I h
  exact isTrue_not (ha pins s σ H (fun c H1=>Q (!c) H1) I h)
def tAndV (ta tb:TE):TE:=fun σ H Q=>ta σ H fun x H1=>∃ c,x = .bl c∧if c=true then tb σ H1 Q else Q (.bl false) H1
def tOrV (ta tb:TE):TE:=fun σ H Q=>ta σ H fun x H1=>∃ c,x = .bl c∧if c=true then Q (.bl true) H1 else tb σ H1 Q
theorem pe_one {op}{t:TE} (h:PE X a t):PE X (.BoolOp op [a] pos) t:=fun pins s σ H Q I hw=>BoolOp_one (h pins s σ H Q I hw)
theorem pe_and (ha:PE X a ta) (hb:PE X (.BoolOp .And (b :: rest) pos) tb):PE X (.BoolOp .And (a :: b :: rest) pos) (tAndV ta tb):=by
  intro pins s σ H Q I h
  refine BoolOp_and (thn (ha pins s σ H _ I h) fun v s1 ⟨x,H1,I1,r1,q1⟩=>?_)
  obtain ⟨c,rfl,q1⟩:=q1
  cases r1
  refine wpAny_truthy_bool ?_
  cases c with
  | true=>exact hb pins s1 σ H1 Q I1 q1
  | false=>exact ⟨.bl false,H1,I1,rfl,q1⟩
theorem pe_or (ha:PE X a ta) (hb:PE X (.BoolOp .Or (b :: rest) pos) tb):PE X (.BoolOp .Or (a :: b :: rest) pos) (tOrV ta tb):=by
  intro pins s σ H Q I h
  refine BoolOp_or (thn (ha pins s σ H _ I h) fun v s1 ⟨x,H1,I1,r1,q1⟩=>?_)
  obtain ⟨c,rfl,q1⟩:=q1
  cases r1
  refine wpAny_truthy_bool ?_
  cases c with
  | false=>exact hb pins s1 σ H1 Q I1 q1
  | true=>exact ⟨.bl true,H1,I1,rfl,q1⟩
def tIf (t:TT) (ta tb:TE):TE:=fun σ H Q=>t σ H fun c H1=>if c=true then ta σ H1 Q else tb σ H1 Q
theorem pe_ifExp {c:Expr} (hc:PT X c tA) (ha:PE X a ta) (hb:PE X b tb):PE X (.IfExp c a b pos) (tIf tA ta tb):=by
  intro pins s σ H Q I h
  refine wpAny_IfExp (thn (hc pins s σ H _ I h) fun d s1 ⟨H1,I1,q1⟩=>?_)
  cases d with
  | true=>exact ha pins s1 σ H1 Q I1 q1
  | false=>exact hb pins s1 σ H1 Q I1 q1
end
end L2
namespace L2
open PySem PySem.Spec PyProof.Rows
def SqL (K:PySem.W.Frag) (H:Hp) (a:Addr) (xs:List V):Prop :=
  Rd H a (.lst xs) ∨
    ∃ (o:Obj) (its:Array Value) (n:Nat),K.lookup a=some o∧o.cls = .type "list" ∧ o.dict=none∧o.data = .seq its n∧its.size ≤ sizeLine∧Vals xs its.toList
def SqT (K:PySem.W.Frag) (H:Hp) (a:Addr) (xs:List V):Prop :=
  Rd H a (.tup xs) ∨
    ∃ (o:Obj) (its:Array Value) (n:Nat),K.lookup a=some o∧o.cls = .type "tuple" ∧ o.data = .seq its n∧its.size ≤ sizeLine∧Vals xs its.toList
def absV : Value->Option V
  | .none=>some .non
  | .bool b=>some (.bl b)
  | .int i _=>some (.int i)
  | .str x _=>some (.str x)
  | .bytes b _=>some (.byt b)
  | .float b _=>some (.flt b)
  | .ref a=>some (.ref a)
  | .type n=>some (.ty n)
  | _=>none
theorem RelV.abs {x:V}{u:Value} (r:RelV x u):absV u=some x:=by
  cases x with
  | non=>cases r; rfl
  | bl _=>cases r; rfl
  | int _=>obtain ⟨t,rfl⟩:=r; rfl
  | str _=>obtain ⟨t,rfl⟩:=r; rfl
  | byt _=>obtain ⟨t,rfl⟩:=r; rfl
  | flt _=>obtain ⟨t,rfl⟩:=r; rfl
  | ref _=>cases r; rfl
  | ty _=>cases r; rfl
theorem RelV.inj {x y:V}{u:Value} (r:RelV x u) (q:RelV y u):x=y:=Option.some.inj (r.abs.symm.trans q.abs)
theorem Vals.inj : ∀ {xs ys:List V}{us:List Value},Vals xs us->Vals ys us->xs=ys
  | _,_,_,.nil,.nil=>rfl
  | _,_,_,.cons r t,.cons r' t'=>by rw [r.inj r',Vals.inj t t']
section
variable {X:Cx}{pins:List (Addr × Obj)}{σ:St}{H:Hp}{s:Shared}{a:Addr}{xs ys:List V}
theorem SqL.of {K:PySem.W.Frag} (h:H a=some (.lst xs)):SqL K H a xs:=.inl (.inl h)
theorem SqT.of {K:PySem.W.Frag} (h:H a=some (.tup xs)):SqT K H a xs:=.inl (.inl h)
theorem Inv.list (I:Inv X pins σ H s) (h:SqL X.K H a xs):∃ its:List Value,Vals xs its∧PlainL s.heap a its.toArray∧xs.length ≤ sizeLine:=by
  rcases h with h | ⟨o,its,n,hk,hc,hd,hs,hz,r⟩
  · obtain ⟨z,its,n,r,e⟩:=h.ok I.hok
    exact ⟨its,r,⟨_,n,e,rfl,rfl,rfl⟩,z⟩
  · refine ⟨its.toList,r,⟨o,n,I.kIn a o hk,hc,hd,by simpa using hs⟩,?_⟩
    have e:=r.length
    simp only [Array.length_toList] at e
    omega
theorem Inv.tuple (I:Inv X pins σ H s) (h:SqT X.K H a xs):∃ its:List Value,Vals xs its∧IsTup s.heap a its.toArray∧xs.length ≤ sizeLine:=by
  rcases h with h | ⟨o,its,n,hk,hc,hs,hz,r⟩
  · obtain ⟨z,its,r,p⟩:=h.ok I.hok
    exact ⟨its,r,p,z⟩
  · refine ⟨its.toList,r,⟨o,I.kIn a o hk,hc,n,by simpa using hs⟩,?_⟩
    have e:=r.length
    simp only [Array.length_toList] at e
    omega
theorem Inv.list_inj (I:Inv X pins σ H s) (h:SqL X.K H a xs) (h':SqL X.K H a ys):xs=ys:=by
  obtain ⟨its,r,⟨o,n,e,_,_,d⟩,_⟩:=I.list h
  obtain ⟨its',r',⟨o',n',e',_,_,d'⟩,_⟩:=I.list h'
  rw [e] at e'; cases e'
  rw [d] at d'
  injection d' with d1 _
  have:its=its':=by simpa using congrArg Array.toList d1
  subst this
  exact r.inj r'
end
abbrev Cx.wish (X:Cx) (E:Value->Shared->Prop):Cx:={ X with xe:=E }
abbrev Cx.nox (X:Cx):Cx:=X.wish fun _ _=>False
theorem Cx.Ok.wish {X:Cx} (ok:X.Ok) (E:Value->Shared->Prop):(X.wish E).Ok :=
  ⟨ok.mod,ok.kind,ok.glob,ok.blt,ok.above,ok.inj,ok.has,ok.cab,ok.hd,ok.frames,ok.stk,ok.exf,ok.bs,ok.bsz,ok.noex,ok.exfs,ok.funs,ok.frf⟩
theorem Cx.Ok.unwish {X:Cx}{E:Value->Shared->Prop} (ok:(X.wish E).Ok):X.Ok :=
  ⟨ok.mod,ok.kind,ok.glob,ok.blt,ok.above,ok.inj,ok.has,ok.cab,ok.hd,ok.frames,ok.stk,ok.exf,ok.bs,ok.bsz,ok.noex,ok.exfs,ok.funs,ok.frf⟩
section
variable {X:Cx}{pins:List (Addr × Obj)}{σ:St}{H:Hp}{s:Shared}{E:Value->Shared->Prop}
theorem Inv.wish (I:Inv X pins σ H s) (E:Value->Shared->Prop):Inv (X.wish E) pins σ H s:=⟨I.ok.wish E,I.os,I.bare,I.base,I.loc,I.cell,I.free,I.freeC,I.pin,I.hok,I.len⟩
theorem Inv.unwish (I:Inv (X.wish E) pins σ H s):Inv X pins σ H s:=⟨I.ok.unwish,I.os,I.bare,I.base,I.loc,I.cell,I.free,I.freeC,I.pin,I.hok,I.len⟩
theorem SP.unwish {D:Ends}{f:Flow}{s':Shared} (h:SP (X.wish E) pins D f s'):SP X pins D f s':=by
  cases f with
  | next=>obtain ⟨σ',H',I,q⟩:=h; exact ⟨σ',H',I.unwish,q⟩
  | brk=>obtain ⟨σ',H',I,q⟩:=h; exact ⟨σ',H',I.unwish,q⟩
  | cont=>obtain ⟨σ',H',I,q⟩:=h; exact ⟨σ',H',I.unwish,q⟩
  | ret u=>obtain ⟨v,σ',H',I,r,q⟩:=h; exact ⟨v,σ',H',I.unwish,r,q⟩
theorem PSs.nox {st:List Stmt}{t:TS} (h:PSs X.nox st t):PSs X st t:=fun pins s σ H D I hw =>
  wpAny_mono (h pins s σ H D (I.wish _) hw) (fun _ _ q=>q.unwish) fun _ _ z=>False.elim z
end
section
variable {X:Cx}{st:Stmt}{rest:List Stmt}{t u:TS}{e:Expr}{te:TE}{pos:Pos}
def tNext : TS:=fun D σ H=>D.nx σ H
def tSeq (t u:TS):TS:=fun D σ H=>t { D with nx:=u D } σ H
theorem pss_nil : PSs X [] tNext:=fun _ _ σ H _ I h=>wpAny_execs_nil ⟨σ,H,I,h⟩
theorem pss_cons (h1:PS X st t) (h2:PSs X rest u):PSs X (st :: rest) (tSeq t u):=by
  intro pins s σ H D I h
  refine wpAny_execs_cons (thn (h1 pins s σ H { D with nx:=u D } I h) fun f s1 q=>?_)
  cases f with
  | next =>
    obtain ⟨σ',H',I',q⟩:=q
    exact h2 pins s1 σ' H' D I' q
  | ret v=>exact q
  | brk=>exact q
  | cont=>exact q
theorem pss_one (h1:PS X st t):PSs X [st] t:=by
  intro pins s σ H D I h
  refine wpAny_execs_cons (thn (h1 pins s σ H D I h) fun f s1 q=>?_)
  cases f with
  | next=>exact wpAny_execs_nil q
  | ret v=>exact q
  | brk=>exact q
  | cont=>exact q
theorem Inv.quiet {pins:List (Addr × Obj)}{σ:St}{H:Hp}{s:Shared} (I:Inv X pins σ H s):interactive X.env=false:=by simp [interactive,I.ok.kind]
def tDrop (te:TE):TS:=fun D σ H=>te σ H fun _ H1=>D.nx σ H1
theorem ps_expr (he:PE X e te) (hs:swapsWith e none pos.line X.env=pure false:=by rfl):PS X (.Expr e pos) (tDrop te):=by
  intro pins s σ H D I h
  exact wpAny_Expr_any (thn (he pins s σ H _ I h) fun v s1 ⟨x,H1,I1,r1,q1⟩=>⟨σ,H1,I1,q1⟩) I.quiet hs
def tRet (te:TE):TS:=fun D σ H=>te σ H D.rt
theorem ps_ret (he:PE X e te):PS X (.Return (some e) pos) (tRet te):=by
  intro pins s σ H D I h
  exact wpAny_Return_some (thn (he pins s σ H _ I h) fun v s1 ⟨x,H1,I1,r1,q1⟩=>⟨x,σ,H1,I1,r1,q1⟩)
def tIfS (c:TT) (t u:TS):TS:=fun D σ H=>c σ H fun b H1=>if b=true then t D σ H1 else u D σ H1
theorem ps_if {c:Expr}{a b:List Stmt}{tc:TT} (hc:PT X c tc) (ha:PSs X a t) (hb:PSs X b u):PS X (.If c a b pos) (tIfS tc t u):=by
  intro pins s σ H D I h
  refine wpAny_If (thn (hc pins s σ H _ I h) fun d s1 ⟨H1,I1,q1⟩=>?_)
  cases d with
  | true=>exact ha pins s1 σ H1 D I1 q1
  | false=>exact hb pins s1 σ H1 D I1 q1
def tNever : TS:=fun _ _ _=>False
theorem ps_never : PS X st tNever:=fun _ _ _ _ _ _ h=>h.elim
end
abbrev TG:=V->St->Hp->(St->Hp->Prop)->Prop
abbrev TGs:=List V->St->Hp->(St->Hp->Prop)->Prop
def PG (X:Cx) (target:Expr) (t:TG):Prop :=
  ∀ (pins:List (Addr × Obj)) (s:Shared) (σ:St) (H:Hp) (v:V) (u:Value) (Q:St->Hp->Prop),Inv X pins σ H s->RelV v u->t v σ H Q →
    wpAny (model X.prog X.w) X.A (assign target X.env u) (fun _ s'=>∃ σ' H',Inv X pins σ' H' s'∧Q σ' H') X.xe s
def PGs (X:Cx) (ts:List Expr) (t:TGs):Prop :=
  ∀ (pins:List (Addr × Obj)) (s:Shared) (σ:St) (H:Hp) (vs:List V) (us:List Value) (Q:St->Hp->Prop),Inv X pins σ H s->Vals vs us->t vs σ H Q →
    wpAny (model X.prog X.w) X.A (assignInOrder ((assignEach ts X.env).map (·.2)) us) (fun _ s'=>∃ σ' H',Inv X pins σ' H' s'∧Q σ' H') X.xe s
abbrev TIp:=V->V->Hp->VK->Prop
def PIp (X:Cx) (op:Operator) (t:TIp):Prop :=
  ∀ (pins:List (Addr × Obj)) (s:Shared) (σ:St) (H:Hp) (x y:V) (v u:Value) (Q:VK),Inv X pins σ H s->RelV x v->RelV y u->t x y H Q →
    wpAny (model X.prog X.w) X.A (inplaceOp op v u) (EP X pins σ Q) X.xe s
section
variable {X:Cx}{pos:Pos}
def gName (i:Nat):TG:=fun v σ H Q=>Q (σ.set i (some v)) H
theorem pg_name {i:Nat}{x:Str} (hN:X.N.Nodup) (hi:X.N[i]?=some x) (hx:Loc X.env.scope x) (hf:X.fn x=true ∨ X.env.scope.names.lookup x=some .local:=by first | exact .inl rfl | exact .inr rfl | assumption):PG X (.Name x pos) (gName i):=by
  intro pins s σ H v u Q I r h
  exact wpAny_assign_Name (store_ok I hN hi hx r (fun s' I'=>⟨_,H,I',h⟩) hf)
def gNil : TGs:=fun vs σ H Q=>vs=[]∧Q σ H
def gCons (t:TG) (u:TGs):TGs:=fun vs σ H Q=>∃ v r,vs=v :: r∧t v σ H fun σ' H'=>u r σ' H' Q
theorem pgs_nil : PGs X [] gNil:=by
  intro pins s σ H vs us Q I r h
  obtain ⟨e,h⟩:=h
  subst e
  cases r
  exact assignInOrder_nil ⟨σ,H,I,h⟩
theorem pgs_cons {e:Expr}{es:List Expr}{t:TG}{u:TGs} (h1:PG X e t) (h2:PGs X es u)
    (hs:(assignEach (e :: es) X.env).map (·.2)=assign e X.env :: (assignEach es X.env).map (·.2):=by rfl):PGs X (e :: es) (gCons t u):=by
  intro pins s σ H vs us Q I r h
  obtain ⟨v,vr,e1,h⟩:=h
  subst e1
  cases r with
  | cons r rr =>
    rw [hs]
    refine assignInOrder_cons (thn (h1 pins s σ H _ _ _ I r h) fun _ s1 ⟨σ1,H1,I1,q1⟩=>?_)
    exact h2 pins s1 σ1 H1 _ _ Q I1 rr q1
def gTup (K:PySem.W.Frag) (n:Nat) (t:TGs):TG:=fun v σ H Q=>∃ a xs,v = .ref a∧SqT K H a xs∧xs.length=n∧t xs σ H Q
theorem pg_tup {es:List Expr}{k:Nat}{t:TGs}{n:Nat} (hc:X.calm=true) (h:PGs X es t)
    (hn:(assignEach es X.env).length=n:=by rfl) (hst:(assignEach es X.env).findIdx? (·.1)=none:=by rfl):PG X (.Tuple es k pos) (gTup X.K n t):=by
  intro pins s σ H v u Q I r hw
  obtain ⟨a,xs,e1,hq,hl,hw⟩:=hw
  subst e1
  cases r
  obtain ⟨its,rv,ht,hz⟩:=I.tuple hq
  refine assign_Tuple_tuple (I.ok.hd hc) ht (by simp [hn,← hl,rv.length]) hst fun h' hx=>?_
  have I1:Inv X pins σ H { s with heap:=h' }:=I.kept (t':=s.toks) fun b o e=>hx b o (Nat.ne_of_lt (Heap.lt_size e)) e
  exact h pins _ σ H xs _ Q I1 (by simpa using rv) hw
def tAsg (te:TE) (g:TG):TS:=fun D σ H=>te σ H fun x H1=>g x σ H1 D.nx
theorem ps_set {i:Nat}{x:Str}{e:Expr}{te:TE}{pos':Pos} (hN:X.N.Nodup) (hi:X.N[i]?=some x) (hx:Loc X.env.scope x) (he:PE X e te) (hs:swapsWith e (some (.Name x pos')) pos.line X.env=pure false:=by rfl) (hf:X.fn x=true ∨ X.env.scope.names.lookup x=some .local:=by first | exact .inl rfl | exact .inr rfl | assumption) :
    PS X (.Assign [.Name x pos'] e pos) (tAsg te (gName i)):=by
  intro pins s σ H D I h
  refine wpAny_Assign_Name (thn (he pins s σ H _ I h) fun v s1 ⟨y,H1,I1,r1,q1⟩=>?_) hs
  exact store_ok I1 hN hi hx r1 (fun s2 I2=>⟨_,H1,I2,q1⟩) hf
def tAug (i:Nat) (te:TE) (ti:TIp):TS:=fun D σ H=>∃ x,σ[i]?=some (some x)∧te σ H fun y H1=>ti x y H1 fun z H2=>D.nx (σ.set i (some z)) H2
theorem ps_aug {i:Nat}{x:Str}{e:Expr}{te:TE}{op:Operator}{ti:TIp}{pos':Pos} (hN:X.N.Nodup) (hi:X.N[i]?=some x) (hx:Loc X.env.scope x) (he:PE X e te) (ho:PIp X op ti) (hf:X.fn x=true ∨ X.env.scope.names.lookup x=some .local:=by first | exact .inl rfl | exact .inr rfl | assumption) :
    PS X (.AugAssign (.Name x pos') op e pos) (tAug i te ti):=by
  intro pins s σ H D I h
  obtain ⟨v,e1,h⟩:=h
  obtain ⟨m,hn,hl⟩:=I.loc
  have vis:Vis X.env.scope x:=by rcases hx with k | k; exact .inl k; exact .inr (.inl k)
  obtain ⟨u,r,l⟩:=hl i x v hi e1 vis
  refine wpAny_AugAssign_Name ?_
  have go:wpAny (model X.prog X.w) X.A (eval e X.env) (fun w s₂=>wpAny (model X.prog X.w) X.A (inplaceOp op u w) (fun r s₃=>wpAny (model X.prog X.w) X.A (storeName X.env x r) (fun _=>SP X pins D .next) X.xe s₃) X.xe s₂) X.xe s:=by
    refine thn (he pins s σ H _ I h) fun w s1 ⟨y,H1,I1,r1,q1⟩=>?_
    refine thn (ho pins s1 σ H1 v y u w _ I1 r r1 q1) fun z s2 ⟨zv,H2,I2,r2,q2⟩=>?_
    exact store_ok I2 hN hi hx r2 (fun s3 I3=>⟨_,H2,I3,q2⟩) hf
  rcases l with ⟨hk,hm⟩ | ⟨hk,c,hc,hcell⟩
  · exact wpAny_loadName_local I.ok.kind hk hn hm go
  · rcases hk with hk | hk
    · exact wpAny_loadName_cell I.ok.kind hk hc hcell go
    · rcases hx with k | k
      · have:X.env.scope.names.lookup x=some .free:=hk
        rw [k] at this; cases this
      · have:X.env.scope.names.lookup x=some .free:=hk
        rw [k] at this; cases this
def ipI (f:Int->Int->Int):TIp:=fun x y H Q=>∃ i j,x = .int i∧y = .int j∧Q (.int (f i j)) H
theorem ip_add : PIp X .Add (ipI fun i j=>i + j):=by
  intro pins s σ H x y v u Q I r1 r2 h
  obtain ⟨i,j,e1,e2,q⟩:=h
  subst e1; subst e2
  obtain ⟨t,rfl⟩:=r1
  obtain ⟨t',rfl⟩:=r2
  exact iadd_int ⟨.int _,H,I.tok _,⟨_,rfl⟩,q⟩
theorem ip_sub : PIp X .Sub (ipI fun i j=>i - j):=by
  intro pins s σ H x y v u Q I r1 r2 h
  obtain ⟨i,j,e1,e2,q⟩:=h
  subst e1; subst e2
  obtain ⟨t,rfl⟩:=r1
  obtain ⟨t',rfl⟩:=r2
  exact isub_int ⟨.int _,H,I.tok _,⟨_,rfl⟩,q⟩
end
section
variable {X:Cx}{pos:Pos}
def tWhile (c:TT) (tb:TS):TS:=fun D σ H=>∃ W:Nat->St->Hp->Prop,(∃ m,W m σ H)∧∀ m σ H,W m σ H →
  c σ H fun b H1=>if b=true then ∃ N:St->Hp->Prop,(∀ σ' H',N σ' H'->∃ m',m' < m∧W m' σ' H')∧tb { D with nx:=N,ct:=N,bk:=D.nx } σ H1 else D.nx σ H1
theorem ps_while {c:Expr}{body:List Stmt}{tc:TT}{tb:TS} (hp:PassesOwn (model X.prog X.w) X.A X.env X.xe) (hc:PT X c tc) (hb:PSs X body tb):PS X (.While c body [] pos) (tWhile tc tb):=by
  intro pins s σ H D I h
  obtain ⟨W,⟨m0,w0⟩,turn⟩:=h
  refine wpAny_While (codeAny_whileLoop (fun n s'=>∃ σ' H',Inv X pins σ' H' s'∧W n σ' H') ?_ m0 ⟨σ,H,I,w0⟩)
  rintro n s1 ⟨σ1,H1,I1,w1⟩
  refine wpAny_passesOwn hp (thn (hc pins s1 σ1 H1 _ I1 (turn n σ1 H1 w1)) fun b s2 ⟨H2,I2,q2⟩=>?_)
  cases b with
  | true =>
    obtain ⟨N,hN,q2⟩:=q2
    rw [if_pos rfl]
    refine wpAny_passesOwn hp (thn (hb pins s2 σ1 H2 _ I2 q2) fun f s3 q3=>?_)
    cases f with
    | next =>
      obtain ⟨σ3,H3,I3,n3⟩:=q3
      obtain ⟨m',hm,w3⟩:=hN σ3 H3 n3
      exact ⟨m',hm,σ3,H3,I3,w3⟩
    | cont =>
      obtain ⟨σ3,H3,I3,n3⟩:=q3
      obtain ⟨m',hm,w3⟩:=hN σ3 H3 n3
      exact ⟨m',hm,σ3,H3,I3,w3⟩
    | brk=>exact q3
    | ret v=>exact q3
  | false =>
    rw [if_neg Bool.false_ne_true]
    exact wpAny_execs_nil ⟨σ1,H2,I2,q2⟩
end
structure It where
  go:Nat->Hp->Prop
  yld:Nat->Hp->V->Hp->Prop
  stop:Nat->Hp->Prop
def FpOk (X:Cx) (pins:List (Addr × Obj)) (H:Hp) (b:Addr):Prop :=
  H b=none∧b ≠ X.env.locals∧b ∉ X.fs∧(b ∈ X.ex ∨ X.s_0.heap.objs.size ≤ b)∧(∀ x c,X.env.cells.lookup x=some c->c ≠ b)∧∀ p ∈ X.pn ++ pins,p.1 ≠ b
theorem Inv.fpOk {X:Cx}{pins:List (Addr × Obj)}{σ:St}{H H':Hp}{s:Shared}{b:Addr} (I:Inv X pins σ H s) (hb:s.heap.objs.size ≤ b) (hn:H' b=none):FpOk X pins H' b:=by
  refine ⟨hn,Nat.ne_of_gt (Nat.lt_of_lt_of_le I.lt hb),I.nofs hb,.inr (Nat.le_trans I.sz hb),fun x c e z=>?_,fun p hp z=>?_⟩
  · obtain ⟨v,q⟩:=I.cell x c e
    exact absurd (Nat.lt_of_lt_of_le q.lt (by rw [z]; exact hb)) (Nat.lt_irrefl _)
  · exact absurd (Nat.lt_of_lt_of_le (Heap.lt_size (I.pin p hp).1) (by rw [z]; exact hb)) (Nat.lt_irrefl _)
structure Turn (P:Program) (w:World) (K:PySem.W.Frag) (tg:Expr) (J:It) (fp:List Addr) (it:Addr) (tn:Nat->Heap->Prop):Prop where
  mem:it ∈ fp
  obj:∀ i h,tn i h->∀ b ∈ fp,∃ o,h.get? b=some o∧∀ v,o.data ≠ .cell v
  keep:∀ i h h',tn i h->(∀ b ∈ fp,∀ o,h.get? b=some o->h'.get? b=some o)->tn i h'
  item:∀ (X:Cx),X.prog=P->X.w=w->X.K=K->X.calm=true->∀ (i:Nat) (pins:List (Addr × Obj)) (s:Shared) (σ:St) (H:Hp) (E:Value->Shared->Prop),Inv X pins σ H s->(∀ b ∈ fp,FpOk X pins H b)->tn i s.heap->J.go i H →
    wpAny (model P w) X.A (pyNext (.ref it)) (fun r s1=>∃ u,r=some u ∧
      wpAny (model P w) X.A (letOwnedTupleGo tg (.ref it) u) (fun _ s2=>∃ x H',Inv X pins σ H' s2∧RelV x u∧J.yld i H x H'∧tn (i + 1) s2.heap∧∀ b ∈ fp,H' b=none) E s1) E s
  done:∀ (X:Cx),X.prog=P->X.w=w->X.K=K->X.calm=true->∀ (i:Nat) (pins:List (Addr × Obj)) (s:Shared) (σ:St) (H:Hp) (E:Value->Shared->Prop),Inv X pins σ H s->(∀ b ∈ fp,FpOk X pins H b)->tn i s.heap->J.stop i H →
    wpAny (model P w) X.A (pyNext (.ref it)) (fun r s1=>r=none∧Inv X pins σ H s1) E s
  self:∀ (A:Around) (i:Nat) (s:Shared) (Q:Value->Shared->Prop) (E:Value->Shared->Prop),tn i s.heap->Q (.ref it) s->wpAny (model P w) A (pyIter (.ref it)) Q E s
abbrev TI:=St->Hp->(It->Hp->Prop)->Prop
def PIE (X:Cx) (pins:List (Addr × Obj)) (σ:St) (tg:Expr) (R:It->Hp->Prop) (itv:Value) (s2:Shared):Prop :=
  ∃ (it:Addr) (fp:List Addr) (tn:Nat->Heap->Prop) (J:It) (H':Hp),itv = .ref it∧Inv X pins σ H' s2∧Turn X.prog X.w X.K tg J fp it tn∧tn 0 s2.heap∧(∀ b ∈ fp,FpOk X pins H' b)∧R J H'
def PI (X:Cx) (tg iter:Expr) (wi:TI):Prop :=
  ∀ (pins:List (Addr × Obj)) (s:Shared) (σ:St) (H:Hp) (R:It->Hp->Prop),Inv X pins σ H s->wi σ H R →
    wpAny (model X.prog X.w) X.A (eval iter X.env) (fun v s1=>wpAny (model X.prog X.w) X.A (pyIter v) (PIE X pins σ tg R) X.xe s1) X.xe s
theorem go_of {M:Model}{A:Around}{E:Value->Shared->Prop}{s:Shared}{tg:Expr}{it:Addr}{u:Value}{o:Obj}{n:String}{vs:Array Value}{Q:Unit->Shared->Prop} (ho:s.heap.get? it=some o) (hc:o.cls = .type n) (hd:o.data = .fields vs)
    (hn:["enumerate","zip","dict_itemiterator","dict_reverseitemiterator","odict_iterator","itertools.zip_longest","itertools.pairwise"].contains n=false) (hQ:Q () s):wpAny M A (letOwnedTupleGo tg (.ref it) u) Q E s:=by
  unfold letOwnedTupleGo
  cases tg <;> first
    | exact wpAny_pure hQ
    | (cases u <;> first
        | exact wpAny_pure hQ
        | (refine wpAny_bind (wpAny_load ho ?_)
           rw [hc,hd]
           show wpAny M A (if (["enumerate","zip","dict_itemiterator","dict_reverseitemiterator","odict_iterator","itertools.zip_longest","itertools.pairwise"].contains n && vs[0]? == some (rawInt _))=true then _ else _) Q E s
           rw [if_neg (by intro h; rw [hn,Bool.false_and] at h; cases h)]
           exact wpAny_pure hQ))
def Itl (K:PySem.W.Frag) (a:Addr):It :=
  ⟨fun i H=>∃ xs x,SqL K H a xs∧xs[i]?=some x,fun i H x H'=>H'=H∧∀ xs,SqL K H a xs->xs[i]?=some x,fun i H=>∃ xs,SqL K H a xs∧xs.length ≤ i⟩
def Itr (lo:Int) (n:Nat):It:=⟨fun i _=>i < n,fun i H x H'=>H'=H∧x = .int (lo + i),fun i _=>n ≤ i⟩
theorem turn_list {P:Program}{w:World}{K:PySem.W.Frag}{tg:Expr} (a it:Addr):Turn P w K tg (Itl K a) [it] it (fun i h=>h.IsListIter it a i) where
  mem:=by simp
  obj:=fun i h st b hb=>by
    have e:b=it:=by simpa using hb
    subst e
    obtain ⟨o,e,c,d⟩:=st
    exact ⟨o,e,fun v z=>by rw [d] at z; cases z⟩
  keep:=fun i h h' st k=>st.at fun o e=>k it (by simp) o e
  item:=by
    intro X hP hw hK hc i pins s σ H E I hf st hg
    subst hP hw hK
    obtain ⟨xs,x,hq,hx⟩:=hg
    obtain ⟨its,rv,p,hz⟩:=I.list hq
    obtain ⟨u,hu,ru⟩:=rv.get hx
    obtain ⟨f0,f1,f2,f3,f4,f5⟩:=hf it (by simp)
    refine wpAny_pyNext_list_item st p.isList (x:=u) (by simpa using hu) fun h' st' sb=>?_
    have I1:Inv X pins σ H { s with heap:=h' }:=I.turned (t':=s.toks) (fun b o hb e=>(sb.2 b hb).trans e) f0 f1 f3 f4 f5
    obtain ⟨o,e,c,d⟩:=id st'
    exact ⟨u,rfl,go_of (s:={ s with heap:=h' }) e c d (by decide) ⟨x,H,I1,ru,⟨rfl,fun ys hy=>by rw [I.list_inj hy hq]; exact hx⟩,st',fun b hb=>(hf b hb).1⟩⟩
  done:=by
    intro X hP hw hK hc i pins s σ H E I hf st hg
    subst hP hw hK
    obtain ⟨xs,hq,hx⟩:=hg
    obtain ⟨its,rv,p,hz⟩:=I.list hq
    obtain ⟨f0,f1,f2,f3,f4,f5⟩:=hf it (by simp)
    have hl:=rv.length
    exact wpAny_pyNext_list_end (I.ok.hd hc) st p.isList (by simp; omega) fun h' eb=>⟨rfl,I.turned (t':=s.toks) (fun b o hb e=>eb b o hb e) f0 f1 f3 f4 f5⟩
  self:=fun _ _ _ _ _ st h=>wpAny_pyIter_listiter st h
theorem turn_range {P:Program}{w:World}{K:PySem.W.Frag}{tg:Expr} (it:Addr) (lo:Int) (n:Nat):Turn P w K tg (Itr lo n) [it] it (fun i h=>IsRangeIter h it (lo + (i:Nat) * 1) ((n:Int) - (i:Nat)) 1) where
  mem:=by simp
  obj:=fun i h st b hb=>by
    have e:b=it:=by simpa using hb
    subst e
    exact ⟨_,st,fun v z=>by
      have z':Data.fields _=Data.cell v:=z
      cases z'⟩
  keep:=fun i h h' st k=>k it (by simp) _ st
  item:=by
    intro X hP hw hK hc i pins s σ H E I hf st hg
    subst hP hw hK
    obtain ⟨f0,f1,f2,f3,f4,f5⟩:=hf it (by simp)
    have W:=Walks.range (prog:=X.prog) (w:=X.w) (I.ok.hd hc) it lo 1 n
    refine W.item i s _ _ hg st fun v h' tk hv st' kk=>?_
    obtain ⟨t,rfl⟩:=hv
    have I1:Inv X pins σ H { s with heap:=h',toks:=tk }:=I.turned (fun b o hb e=>kk b o (by simpa using hb) e) f0 f1 f3 f4 f5
    refine ⟨_,rfl,go_of (s:={ s with heap:=h',toks:=tk }) (n:="range_iterator") st' rfl rfl (by decide) ⟨.int (lo + i),H,I1,⟨t,?_⟩,⟨rfl,rfl⟩,st',fun b hb=>(hf b hb).1⟩⟩
    rw [Int.mul_one]
  done:=by
    intro X hP hw hK hc i pins s σ H E I hf st hg
    subst hP hw hK
    obtain ⟨f0,f1,f2,f3,f4,f5⟩:=hf it (by simp)
    exact wpAny_pyNext_range_end (I.ok.hd hc) st (by have:n ≤ i:=hg; omega) fun h' eb=>⟨rfl,I.turned (t':=s.toks) (fun b o hb e=>eb b o hb e) f0 f1 f3 f4 f5⟩
  self:=fun _ _ _ _ _ st h=>wpAny_pyIter_rangeiter st h
end L2
namespace L2
open PySem PySem.Spec PyProof.Rows
section
variable {X:Cx}{tg:Expr}
def iList (K:PySem.W.Frag) (tl:TE):TI:=fun σ H R=>tl σ H fun x H1=>∃ a,x = .ref a∧(∃ xs,SqL K H1 a xs)∧R (Itl K a) H1
theorem pi_list {l:Expr}{tl:TE} (hl:PE X l tl):PI X tg l (iList X.K tl):=by
  intro pins s σ H R I h
  refine thn (hl pins s σ H _ I h) fun v s1 ⟨x,H1,I1,r1,q1⟩=>?_
  obtain ⟨a,e,⟨xs,hq⟩,q⟩:=q1
  subst e
  cases r1
  obtain ⟨its,rv,p,hz⟩:=I1.list hq
  refine wpAny_pyIter_list p.isList ?_
  refine ⟨s1.heap.objs.size,[s1.heap.objs.size],_,_,H1,rfl,I1.kept (t':=s1.toks) fun b o e=>Heap.get?_push_of_some _ e,turn_list a _,⟨_,Heap.get?_push_size _ rfl,rfl,rfl⟩,fun b hb=>?_,q⟩
  have e:b=s1.heap.objs.size:=by simpa using hb
  subst e
  exact I1.fpOk (Nat.le_refl _) (I1.hok.fresh (Nat.le_refl _))
theorem range_it {pins:List (Addr × Obj)}{σ:St}{H:Hp}{s:Shared}{R:It->Hp->Prop}{E:Value->Shared->Prop}{lo hi:Int}{t u v:Tok}{tk:Nat} (I:Inv X pins σ H s) (h1:-(2 ^ 62) ≤ lo) (h2:lo < 2 ^ 62) (h3:-(2 ^ 62) ≤ hi) (h4:hi < 2 ^ 62)
    (q:R (Itr lo (hi - lo).toNat) H):wpAny (model X.prog X.w) X.A (pyIter (.ref s.heap.objs.size)) (PIE X pins σ tg R) E { s with heap:=s.heap.push { cls:=.type "range",data:=.fields #[.int lo t,.int hi u,.int 1 v] },toks:=tk }:=by
  refine wpAny_pyIter_range (IsRange.new ..) (small_one h1 h2 h3 h4) ?_
  have I1:Inv X pins σ H { s with heap:=s.heap.push { cls:=.type "range",data:=.fields #[.int lo t,.int hi u,.int 1 v] },toks:=tk }:=I.kept fun b o e=>Heap.get?_push_of_some _ e
  refine ⟨(s.heap.push { cls:=.type "range",data:=.fields #[.int lo t,.int hi u,.int 1 v] }).objs.size,[(s.heap.push { cls:=.type "range",data:=.fields #[.int lo t,.int hi u,.int 1 v] }).objs.size],_,_,H,rfl,
    I1.kept (t':=tk) fun b o e=>Heap.get?_push_of_some _ e,turn_range _ lo (hi - lo).toNat,?_,fun b hb=>?_,q⟩
  · have e1:lo + ((0:Nat):Int) * 1=lo:=by simp
    have e2:(((hi - lo).toNat:Nat):Int) - ((0:Nat):Int)=Builtin.Range.rangeSize lo hi 1:=by rw [rangeSize_one]; split <;> omega
    show IsRangeIter _ _ (lo + ((0:Nat):Int) * 1) ((((hi - lo).toNat:Nat):Int) - ((0:Nat):Int)) 1
    rw [e1,e2]
    exact Heap.get?_push_size _ rfl
  · have e:b=(s.heap.push { cls:=.type "range",data:=.fields #[.int lo t,.int hi u,.int 1 v] }).objs.size:=by simpa using hb
    subst e
    exact I1.fpOk (Nat.le_refl _) (I1.hok.fresh (Nat.le_refl _))
def iRng1 (ta:TA):TI:=fun σ H R=>ta σ H fun vs H1=>∃ j:Int,vs=[.int j]∧-(2 ^ 62) ≤ j∧j < 2 ^ 62∧R (Itr 0 j.toNat) H1
theorem pi_range1 {a:Expr}{ta:TA}{p pos:Pos} (hg:Gl X "range") (hm:X.mg "range" = none) (ha:PA X [a] ta) (hs:starEach [a] X.env=[(false,eval a X.env)]:=by rfl):PI X tg (.Call (.Name "range" p) [a] [] pos) (iRng1 ta):=by
  intro pins s σ H R I h
  refine Call_ (ld_blt I hg hm boot_range (PyProof.Rows.callWith_type1 (thn (ha pos pins s σ H _ I h) fun us s1 ⟨vs,H1,I1,r1,q1⟩=>?_) hs rfl))
  obtain ⟨j,e,q1,q2,q⟩:=q1
  subst e
  cases r1 with
  | cons r rr =>
    cases rr
    obtain ⟨t,rfl⟩:=r
    exact call_range_1 (range_it I1 (by omega) (by omega) q1 q2 (by simpa using q))
def tFor (wi:TI) (g:TG) (tb:TS):TS:=fun D σ H=>wi σ H fun J H1=>∃ W:Nat->Nat->St->Hp->Prop,(∃ m,W 0 m σ H1)∧∀ i m σ H,W i m σ H →
  (J.stop i H∧D.nx σ H) ∨ (J.go i H∧∃ N:St->Hp->Prop,(∀ σ' H',N σ' H'->∃ m',m' < m∧W (i + 1) m' σ' H')∧∀ x H',J.yld i H x H'->g x σ H' fun σ2 H2=>tb { D with nx:=N,ct:=N,bk:=D.nx } σ2 H2)
def pinsAt (fp:List Addr) (h:Heap):List (Addr × Obj):=fp.filterMap fun b=>(h.get? b).map fun o=>(b,o)
theorem mem_pinsAt {fp:List Addr}{h:Heap}{b:Addr}{o:Obj} (hb:b ∈ fp) (e:h.get? b=some o):(b,o) ∈ pinsAt fp h:=List.mem_filterMap.mpr ⟨b,hb,by rw [e]; rfl⟩
theorem of_pinsAt {fp:List Addr}{h:Heap}{p:Addr × Obj} (hp:p ∈ pinsAt fp h):p.1 ∈ fp∧h.get? p.1=some p.2:=by
  obtain ⟨b,hb,e⟩:=List.mem_filterMap.mp hp
  cases q:h.get? b with
  | none=>rw [q] at e; cases e
  | some o =>
    rw [q] at e
    have e':(b,o)=p:=Option.some.inj e
    subst e'
    exact ⟨hb,q⟩
theorem Inv.pinned {pins:List (Addr × Obj)}{σ:St}{H:Hp}{s:Shared}{fp:List Addr} (I:Inv X pins σ H s) (hf:∀ b ∈ fp,FpOk X pins H b) (ho:∀ b ∈ fp,∃ o,s.heap.get? b=some o∧∀ v,o.data ≠ .cell v):Inv X (pins ++ pinsAt fp s.heap) σ H s :=
  I.pins_of fun p hp=>(List.mem_append.mp hp).elim (fun z=>I.pin p (List.mem_append_right _ z)) fun z=>by
    obtain ⟨hb,e⟩:=of_pinsAt z
    obtain ⟨f0,f1,f2,_⟩:=hf p.1 hb
    obtain ⟨o,e',d⟩:=ho p.1 hb
    rw [e] at e'; cases e'
    exact ⟨e,f0,f1,f2,d⟩
theorem Inv.unpinned {pins pl:List (Addr × Obj)}{σ:St}{H:Hp}{s:Shared} (I:Inv X (pins ++ pl) σ H s):Inv X pins σ H s:=I.pins_of fun p hp=>I.pin p (List.mem_append_right _ (List.mem_append_left _ hp))
theorem ps_for {iter:Expr}{body:List Stmt}{wi:TI}{g:TG}{tb:TS}{pos:Pos} (hp:PassesOwn (model X.prog X.w) X.A X.env X.xe) (hc:X.calm=true) (hi:PI X tg iter wi) (hg:PG X tg g) (hb:PSs X body tb)
    (hs:∀ x,foldedSetIterable iter X.env x=pure x:=by intro _; rfl):PS X (.For tg iter body [] pos) (tFor wi g tb):=by
  intro pins s σ H D I h
  refine wpAny_For (thn (hi pins s σ H _ I h) fun v s1 h1=>thn h1 fun itv s2 h2=>?_) hs
  obtain ⟨it,fp,tn,J,H2,e,I2,T,st2,f2,W,⟨m0,w0⟩,turn⟩:=h2
  subst e
  have stat:∀ {H':Hp},(∀ b ∈ fp,H' b=none)->∀ b ∈ fp,FpOk X pins H' b:=fun hn b hb=>⟨hn b hb,(f2 b hb).2⟩
  refine codeAny_forLoop_any (fun n s'=>∃ i σ' H',Inv X pins σ' H' s'∧tn i s'.heap∧(∀ b ∈ fp,H' b=none)∧W i n σ' H') ?_ m0 ⟨0,σ,H2,I2,st2,fun b hb=>(f2 b hb).1,w0⟩
  rintro n s3 ⟨i,σ3,H3,I3,st3,fr3,w3⟩
  rcases turn i n σ3 H3 w3 with ⟨stop,qn⟩ | ⟨go,N,hN,step⟩
  · refine wpAny_passesOwn hp (thn (T.done X rfl rfl rfl hc i pins s3 σ3 H3 X.xe I3 (stat fr3) st3 stop) fun r s4 ⟨hr,I4⟩=>?_)
    subst hr
    exact wpAny_execs_nil ⟨σ3,H3,I4,qn⟩
  · refine wpAny_passesOwn hp (thn (T.item X rfl rfl rfl hc i pins s3 σ3 H3 X.xe I3 (stat fr3) st3 go) fun r s4 ⟨u,hr,h4⟩=>?_)
    subst hr
    refine wpAny_passesOwn hp (thn h4 fun _ s5 ⟨x,H5,I5,r5,y5,st5,fr5⟩=>?_)
    have I5':=I5.pinned (stat fr5) (T.obj _ _ st5)
    refine wpAny_passesOwn hp (thn (hg _ s5 σ3 H5 x u _ I5' r5 (step x H5 y5)) fun _ s6 ⟨σ6,H6,I6,q6⟩=>?_)
    refine wpAny_passesOwn hp (thn (hb _ s6 σ6 H6 _ I6 q6) fun f s7 q7=>?_)
    have again:∀ {σ7:St}{H7:Hp},Inv X (pins ++ pinsAt fp s5.heap) σ7 H7 s7->N σ7 H7->∃ m,m < n∧∃ i σ' H',Inv X pins σ' H' s7∧tn i s7.heap∧(∀ b ∈ fp,H' b=none)∧W i m σ' H':=fun {σ7 H7} I7 n7=>by
      obtain ⟨m',hm,w7⟩:=hN σ7 H7 n7
      refine ⟨m',hm,i + 1,σ7,H7,I7.unpinned,T.keep _ _ _ st5 fun b hb o e=>(I7.pin (b,o) (List.mem_append_right _ (List.mem_append_right _ (mem_pinsAt hb e)))).1,fun b hb=>?_,w7⟩
      obtain ⟨o,e,d⟩:=T.obj _ _ st5 b hb
      exact (I7.pin (b,o) (List.mem_append_right _ (List.mem_append_right _ (mem_pinsAt hb e)))).2.1
    cases f with
    | next=>obtain ⟨σ7,H7,I7,n7⟩:=q7; exact again I7 n7
    | cont=>obtain ⟨σ7,H7,I7,n7⟩:=q7; exact again I7 n7
    | brk=>obtain ⟨σ7,H7,I7,q7⟩:=q7; exact ⟨σ7,H7,I7.unpinned,q7⟩
    | ret v=>obtain ⟨x7,σ7,H7,I7,r7,q7⟩:=q7; exact ⟨x7,σ7,H7,I7.unpinned,r7,q7⟩
end
theorem for_list {K:PySem.W.Frag}{a:Addr}{xs:List V}{g:TG}{tb:TS}{D:Ends}{σ:St}{H:Hp} (Pv:Nat->St->Hp->Prop) (h0:Pv 0 σ H) (hl:∀ i σ H,i ≤ xs.length->Pv i σ H->SqL K H a xs)
    (hs:∀ i x σ H,xs[i]?=some x->Pv i σ H->g x σ H fun σ2 H2=>tb { D with nx:=Pv (i + 1),ct:=Pv (i + 1),bk:=D.nx } σ2 H2) (hd:∀ σ H,Pv xs.length σ H->D.nx σ H) :
    ∃ W:Nat->Nat->St->Hp->Prop,(∃ m,W 0 m σ H)∧∀ i m σ H,W i m σ H →
      ((Itl K a).stop i H∧D.nx σ H) ∨ ((Itl K a).go i H∧∃ N:St->Hp->Prop,(∀ σ' H',N σ' H'->∃ m',m' < m∧W (i + 1) m' σ' H')∧∀ x H',(Itl K a).yld i H x H'->g x σ H' fun σ2 H2=>tb { D with nx:=N,ct:=N,bk:=D.nx } σ2 H2):=by
  refine ⟨fun i m σ H=>m=xs.length - i∧i ≤ xs.length∧Pv i σ H,⟨xs.length,by simp,Nat.zero_le _,h0⟩,?_⟩
  rintro i m σ H ⟨rfl,hi,p⟩
  have q:=hl i σ H hi p
  by_cases hlt:i < xs.length
  · refine .inr ⟨⟨xs,xs[i],q,by simp [hlt]⟩,Pv (i + 1),fun σ' H' p'=>⟨xs.length - (i + 1),by omega,rfl,hlt,p'⟩,fun x H' y=>?_⟩
    obtain ⟨e,y⟩:=y
    subst e
    exact hs i x σ _ (y xs q) p
  · have e:i=xs.length:=by omega
    subst e
    exact .inl ⟨⟨xs,q,Nat.le_refl _⟩,hd σ H p⟩
theorem for_range {lo:Int}{n:Nat}{g:TG}{tb:TS}{D:Ends}{σ:St}{H:Hp} (Pv:Nat->St->Hp->Prop) (h0:Pv 0 σ H)
    (hs:∀ i σ H,i < n->Pv i σ H->g (.int (lo + i)) σ H fun σ2 H2=>tb { D with nx:=Pv (i + 1),ct:=Pv (i + 1),bk:=D.nx } σ2 H2) (hd:∀ σ H,Pv n σ H->D.nx σ H) :
    ∃ W:Nat->Nat->St->Hp->Prop,(∃ m,W 0 m σ H)∧∀ i m σ H,W i m σ H →
      ((Itr lo n).stop i H∧D.nx σ H) ∨ ((Itr lo n).go i H∧∃ N:St->Hp->Prop,(∀ σ' H',N σ' H'->∃ m',m' < m∧W (i + 1) m' σ' H')∧∀ x H',(Itr lo n).yld i H x H'->g x σ H' fun σ2 H2=>tb { D with nx:=N,ct:=N,bk:=D.nx } σ2 H2):=by
  refine ⟨fun i m σ H=>m=n - i∧i ≤ n∧Pv i σ H,⟨n,by simp,Nat.zero_le _,h0⟩,?_⟩
  rintro i m σ H ⟨rfl,hi,p⟩
  by_cases hlt:i < n
  · refine .inr ⟨hlt,Pv (i + 1),fun σ' H' p'=>⟨n - (i + 1),by omega,rfl,hlt,p'⟩,fun x H' y=>?_⟩
    obtain ⟨e,y⟩:=y
    subst e y
    exact hs i σ _ hlt p
  · have e:i=n:=by omega
    subst e
    exact .inl ⟨Nat.le_refl _,hd σ H p⟩
end L2
namespace L2
open PySem PySem.Spec PyProof.Rows
abbrev R2:=V->V->Hp->VK->Prop
def OpR (X:Cx) (f:Value->Value->Sem Value) (r:R2):Prop :=
  ∀ (pins:List (Addr × Obj)) (s:Shared) (σ:St) (H:Hp) (x y:V) (v u:Value) (Q:VK),Inv X pins σ H s->RelV x v->RelV y u->r x y H Q →
    wpAny (model X.prog X.w) X.A (f v u) (EP X pins σ Q) X.xe s
def UnR (X:Cx) (f:Value->Sem Value) (r:V->Hp->VK->Prop):Prop :=
  ∀ (pins:List (Addr × Obj)) (s:Shared) (σ:St) (H:Hp) (x:V) (v:Value) (Q:VK),Inv X pins σ H s->RelV x v->r x H Q →
    wpAny (model X.prog X.w) X.A (f v) (EP X pins σ Q) X.xe s
def CallR (X:Cx) (f:Value) (r:List V->Hp->VK->Prop):Prop :=
  ∀ (pins:List (Addr × Obj)) (s:Shared) (σ:St) (H:Hp) (xs:List V) (us:List Value) (Q:VK),Inv X pins σ H s->Vals xs us->r xs H Q →
    wpAny (model X.prog X.w) X.A (call f us) (EP X pins σ Q) X.xe s
def TruR (X:Cx) (r:V->Hp->(Bool->Hp->Prop)->Prop):Prop :=
  ∀ (pins:List (Addr × Obj)) (s:Shared) (σ:St) (H:Hp) (x:V) (v:Value) (Q:Bool->Hp->Prop),Inv X pins σ H s->RelV x v->r x H Q →
    wpAny (model X.prog X.w) X.A (truthy v) (TP X pins σ Q) X.xe s
def tOp (r:R2) (ta tb:TE):TE:=fun σ H Q=>ta σ H fun x H1=>tb σ H1 fun y H2=>r x y H2 Q
def tUn (r:V->Hp->VK->Prop) (ta:TE):TE:=fun σ H Q=>ta σ H fun x H1=>r x H1 Q
def rI0 (g:Int->Int->V):R2:=fun x y H Q=>∃ i j,x = .int i∧y = .int j∧Q (g i j) H
def rU (g:Int->V):V->Hp->VK->Prop:=fun x H Q=>∃ i,x = .int i∧Q (g i) H
section
variable {X:Cx}{a b c:Expr}{ta tb tc:TE}{pos:Pos}
theorem binT (ha:PE X a ta) (hb:PE X b tb) {pins:List (Addr × Obj)}{s:Shared}{σ:St}{H:Hp}{R:V->V->Hp->Prop} (I:Inv X pins σ H s)
    (h:ta σ H fun x H1=>tb σ H1 fun y H2=>R x y H2) {Q:Value->Shared->Prop}{f:Value->Value->Sem Value}
    (hf:∀ v u s2 x y H2,Inv X pins σ H2 s2->RelV x v->RelV y u->R x y H2->wpAny (model X.prog X.w) X.A (f v u) Q X.xe s2) :
    wpAny (model X.prog X.w) X.A (eval a X.env) (fun v s₁=>wpAny (model X.prog X.w) X.A (eval b X.env) (fun u s₂=>wpAny (model X.prog X.w) X.A (f v u) Q X.xe s₂) X.xe s₁) X.xe s:=by
  refine thn (ha pins s σ H _ I h) fun v s1 ⟨x,H1,I1,r1,q1⟩=>?_
  refine thn (hb pins s1 σ H1 _ I1 q1) fun u s2 ⟨y,H2,I2,r2,q2⟩=>?_
  exact hf v u s2 x y H2 I2 r1 r2 q2
theorem pe_op {op:Operator}{r:R2} (ho:OpR X (binaryOp op) r) (ha:PE X a ta) (hb:PE X b tb):PE X (.BinOp a op b pos) (tOp r ta tb):=by
  intro pins s σ H Q I h
  exact wpAny_BinOp (binT ha hb I h fun v u s2 x y H2 I2 rx ry q=>ho pins s2 σ H2 x y v u Q I2 rx ry q)
theorem pe_un {op:UnaryOp}{r:V->Hp->VK->Prop} (ho:UnR X (unaryOp op) r) (ha:PE X a ta):PE X (.UnaryOp op a pos) (tUn r ta):=by
  intro pins s σ H Q I h
  exact UnaryOp_ (thn (ha pins s σ H _ I h) fun v s1 ⟨x,H1,I1,r1,q1⟩=>ho pins s1 σ H1 x v Q I1 r1 q1)
theorem opI0 {f:Value->Value->Sem Value}{g:Int->Int->Int}
    (rule:∀ (i j:Int) (t u:Tok) (s:Shared) (Q:Value->Shared->Prop) (E:Value->Shared->Prop),Q (.int (g i j) s.toks) { s with toks:=s.toks + 1 }->wpAny (model X.prog X.w) X.A (f (.int i t) (.int j u)) Q E s) :
    OpR X f (rI0 fun i j=>.int (g i j)):=by
  intro pins s σ H x y v u Q I rx ry h
  obtain ⟨i,j,rfl,rfl,q⟩:=h
  obtain ⟨t,rfl⟩:=rx
  obtain ⟨t',rfl⟩:=ry
  exact rule i j t t' s _ _ ⟨.int (g i j),H,I.tok _,⟨_,rfl⟩,q⟩
theorem opB0 {f:Value->Value->Sem Value}{g:Int->Int->Bool}
    (rule:∀ (i j:Int) (t u:Tok) (s:Shared) (Q:Value->Shared->Prop) (E:Value->Shared->Prop),Q (.bool (g i j)) s->wpAny (model X.prog X.w) X.A (f (.int i t) (.int j u)) Q E s) :
    OpR X f (rI0 fun i j=>.bl (g i j)):=by
  intro pins s σ H x y v u Q I rx ry h
  obtain ⟨i,j,rfl,rfl,q⟩:=h
  obtain ⟨t,rfl⟩:=rx
  obtain ⟨t',rfl⟩:=ry
  exact rule i j t t' s _ _ ⟨.bl (g i j),H,I,rfl,q⟩
theorem op_add : OpR X (binaryOp .Add) (rI0 fun i j=>.int (i + j)):=opI0 fun _ _ _ _ _ _ _ q=>add_int q
theorem op_sub : OpR X (binaryOp .Sub) (rI0 fun i j=>.int (i - j)):=opI0 fun _ _ _ _ _ _ _ q=>sub_int q
theorem unI {f:Value->Sem Value}{g:Int->Int}
    (rule:∀ (i:Int) (t:Tok) (s:Shared) (Q:Value->Shared->Prop) (E:Value->Shared->Prop),Q (.int (g i) s.toks) { s with toks:=s.toks + 1 }->wpAny (model X.prog X.w) X.A (f (.int i t)) Q E s) :
    UnR X f (rU fun i=>.int (g i)):=by
  intro pins s σ H x v Q I rx h
  obtain ⟨i,rfl,q⟩:=h
  obtain ⟨t,rfl⟩:=rx
  exact rule i t s _ _ ⟨.int (g i),H,I.tok _,⟨_,rfl⟩,q⟩
theorem un_neg : UnR X (unaryOp .USub) (rU fun i=>.int (-i)):=unI fun _ _ _ _ _ q=>neg_int q
end
def scal : V->V->Bool
  | .non,.non=>true | .non,.int _=>true | .int _,.non=>true | .non,.bl _=>true | .bl _,.non=>true | .non,.str _=>true | .str _,.non=>true
  | .int _,.int _=>true | .bl _,.bl _=>true | .str _,.str _=>true | .byt _,.byt _=>true
  | .int _,.str _=>true | .str _,.int _=>true | .bl _,.str _=>true | .str _,.bl _=>true
  | _,_=>false
def rEq : R2:=fun x y H Q=>scal x y=true∧Q (.bl (decide (x=y))) H
def rNe : R2:=fun x y H Q=>scal x y=true∧Q (.bl (!decide (x=y))) H
theorem dec_int {i j:Int}:decide (V.int i=V.int j)=(i == j):=by
  rw [Bool.eq_iff_iff]
  simp
theorem dec_bl {i j:Bool}:decide (V.bl i=V.bl j)=(i == j):=by
  rw [Bool.eq_iff_iff]
  simp
theorem dec_str {i j:Str}:decide (V.str i=V.str j)=(i == j):=by
  rw [Bool.eq_iff_iff]
  simp
theorem dec_byt {i j:Array UInt8}:decide (V.byt i=V.byt j)=(i.toList == j.toList):=by
  rw [Bool.eq_iff_iff]
  cases i
  cases j
  simp
section
variable {X:Cx}{a b c:Expr}{ta tb tc:TE}{pos:Pos}
theorem fin_bl {pins:List (Addr × Obj)}{σ:St}{H:Hp}{s:Shared}{Q:VK}{k k':Bool} (I:Inv X pins σ H s) (q:Q (.bl k) H) (e:k=k'):EP X pins σ Q (.bool k') s:=by
  subst e
  exact ⟨.bl k,H,I,rfl,q⟩
theorem op_eq : OpR X (compareOp .Eq) rEq:=by
  intro pins s σ H x y v u Q I rx ry h
  obtain ⟨hs,q⟩:=h
  cases x with
  | non =>
    cases rx
    cases y with
    | non=>cases ry; exact PySem.EqNone.eq_none_none (fin_bl I q (by simp))
    | bl j=>cases ry; exact PySem.EqNone.eq_none_bool (fin_bl I q (by simp))
    | int j=>obtain ⟨t',rfl⟩:=ry; exact PySem.EqNone.eq_none_int (fin_bl I q (by simp))
    | str j=>obtain ⟨t',rfl⟩:=ry; exact PySem.EqNone.eq_none_str (fin_bl I q (by simp))
    | _=>exact absurd (show false=true from hs) Bool.false_ne_true
  | bl i =>
    cases rx
    cases y with
    | non=>cases ry; exact PySem.EqNone.eq_bool_none (fin_bl I q (by simp))
    | bl j=>cases ry; exact eq_bool (fin_bl I q dec_bl)
    | str j=>obtain ⟨t',rfl⟩:=ry; exact PySem.EqMixed.eq_bool_str (fin_bl I q (by simp))
    | _=>exact absurd (show false=true from hs) Bool.false_ne_true
  | int i =>
    obtain ⟨t,rfl⟩:=rx
    cases y with
    | non=>cases ry; exact PySem.EqNone.eq_int_none (fin_bl I q (by simp))
    | int j=>obtain ⟨t',rfl⟩:=ry; exact eq_int (fin_bl I q dec_int)
    | str j=>obtain ⟨t',rfl⟩:=ry; exact PySem.EqMixed.eq_int_str (fin_bl I q (by simp))
    | _=>exact absurd (show false=true from hs) Bool.false_ne_true
  | str i =>
    obtain ⟨t,rfl⟩:=rx
    cases y with
    | non=>cases ry; exact PySem.EqNone.eq_str_none (fin_bl I q (by simp))
    | bl j=>cases ry; exact PySem.EqMixed.eq_str_bool (fin_bl I q (by simp))
    | int j=>obtain ⟨t',rfl⟩:=ry; exact PySem.EqMixed.eq_str_int (fin_bl I q (by simp))
    | str j=>obtain ⟨t',rfl⟩:=ry; exact eq_str (fin_bl I q dec_str)
    | _=>exact absurd (show false=true from hs) Bool.false_ne_true
  | byt i =>
    obtain ⟨t,rfl⟩:=rx
    cases y with
    | byt j=>obtain ⟨t',rfl⟩:=ry; exact PySem.W.eq_bytes (fin_bl I q dec_byt)
    | _=>exact absurd (show false=true from hs) Bool.false_ne_true
  | _=>cases y <;> exact absurd (show false=true from hs) Bool.false_ne_true
theorem op_ne : OpR X (compareOp .NotEq) rNe:=by
  intro pins s σ H x y v u Q I rx ry h
  obtain ⟨hs,q⟩:=h
  cases x with
  | non =>
    cases rx
    cases y with
    | non=>cases ry; exact PySem.EqNone.ne_none_none (fin_bl I q (by simp))
    | bl j=>cases ry; exact PySem.EqNone.ne_none_bool (fin_bl I q (by simp))
    | int j=>obtain ⟨t',rfl⟩:=ry; exact PySem.EqNone.ne_none_int (fin_bl I q (by simp))
    | str j=>obtain ⟨t',rfl⟩:=ry; exact PySem.EqNone.ne_none_str (fin_bl I q (by simp))
    | _=>exact absurd (show false=true from hs) Bool.false_ne_true
  | bl i =>
    cases rx
    cases y with
    | non=>cases ry; exact PySem.EqNone.ne_bool_none (fin_bl I q (by simp))
    | bl j=>cases ry; exact ne_bool (fin_bl I q (congrArg not dec_bl))
    | str j=>obtain ⟨t',rfl⟩:=ry; exact PySem.EqMixed.ne_bool_str (fin_bl I q (by simp))
    | _=>exact absurd (show false=true from hs) Bool.false_ne_true
  | int i =>
    obtain ⟨t,rfl⟩:=rx
    cases y with
    | non=>cases ry; exact PySem.EqNone.ne_int_none (fin_bl I q (by simp))
    | int j=>obtain ⟨t',rfl⟩:=ry; exact ne_int (fin_bl I q (congrArg not dec_int))
    | str j=>obtain ⟨t',rfl⟩:=ry; exact PySem.EqMixed.ne_int_str (fin_bl I q (by simp))
    | _=>exact absurd (show false=true from hs) Bool.false_ne_true
  | str i =>
    obtain ⟨t,rfl⟩:=rx
    cases y with
    | non=>cases ry; exact PySem.EqNone.ne_str_none (fin_bl I q (by simp))
    | bl j=>cases ry; exact PySem.EqMixed.ne_str_bool (fin_bl I q (by simp))
    | int j=>obtain ⟨t',rfl⟩:=ry; exact PySem.EqMixed.ne_str_int (fin_bl I q (by simp))
    | str j=>obtain ⟨t',rfl⟩:=ry; exact ne_str (fin_bl I q (congrArg not dec_str))
    | _=>exact absurd (show false=true from hs) Bool.false_ne_true
  | byt i =>
    obtain ⟨t,rfl⟩:=rx
    cases y with
    | byt j=>obtain ⟨t',rfl⟩:=ry; exact PySem.W.ne_bytes (fin_bl I q (congrArg not dec_byt))
    | _=>exact absurd (show false=true from hs) Bool.false_ne_true
  | _=>cases y <;> exact absurd (show false=true from hs) Bool.false_ne_true
theorem op_lt : OpR X (compareOp .Lt) (rI0 fun i j=>.bl (decide (i < j))):=opB0 fun _ _ _ _ _ _ _ q=>lt_int q
theorem op_le : OpR X (compareOp .LtE) (rI0 fun i j=>.bl (decide (i ≤ j))):=opB0 fun _ _ _ _ _ _ _ q=>le_int q
theorem op_gt : OpR X (compareOp .Gt) (rI0 fun i j=>.bl (decide (j < i))):=opB0 fun _ _ _ _ _ _ _ q=>gt_int q
theorem op_ge : OpR X (compareOp .GtE) (rI0 fun i j=>.bl (decide (j ≤ i))):=opB0 fun _ _ _ _ _ _ _ q=>ge_int q
theorem op_isN : OpR X (compareOp .Is) (fun x y H Q=>y = .non∧Q (.bl (decide (x = .non))) H):=by
  intro pins s σ H x y v u Q I rx ry h
  obtain ⟨rfl,q⟩:=h
  cases ry
  refine is_none_gen (fin_bl I q ?_)
  cases x <;> first
    | (cases rx; rfl)
    | (obtain ⟨t,rfl⟩:=rx; rfl)
theorem nomark (b:Expr) {op:CmpOp} (h:op ≠ .In:=by decide) (h2:op ≠ .NotIn:=by decide):behindInMarks op b=false:=by
  have e1:(op == CmpOp.In)=false:=by cases op <;> first | rfl | exact absurd rfl h
  have e2:(op == CmpOp.NotIn)=false:=by cases op <;> first | rfl | exact absurd rfl h2
  cases b <;> simp [behindInMarks,e1,e2]
theorem pe_cmpR {op:CmpOp}{r:R2} (ho:OpR X (compareOp op) r) (ha:PE X a ta) (hb:PE X b tb) (hm:behindInMarks op b=false):PE X (.Compare a [op] [b] pos) (tOp r ta tb):=by
  intro pins s σ H Q I h
  exact wpAny_Compare1 (binT ha hb I h fun v u s2 x y H2 I2 rx ry q=>ho pins s2 σ H2 x y v u Q I2 rx ry q) hm
def tTest (t:TE):TT:=fun σ H Q=>t σ H fun x H'=>∃ k,x = .bl k∧Q k H'
theorem pt_cmpR {op:CmpOp}{r:R2} (ho:OpR X (compareOp op) r) (ha:PE X a ta) (hb:PE X b tb) (hm:behindInMarks op b=false):PT X (.Compare a [op] [b] pos) (tTest (tOp r ta tb)):=by
  intro pins s σ H Q I h
  refine wpAny_isTrue_Compare1 (thn (ha pins s σ H _ I h) fun v s1 ⟨x,H1,I1,r1,q1⟩=>thn (hb pins s1 σ H1 _ I1 q1) fun u s2 ⟨y,H2,I2,r2,q2⟩ =>
    thn (ho pins s2 σ H2 x y v u _ I2 r1 r2 q2) fun c s3 ⟨z,H3,I3,r3,k,e,q3⟩=>?_) hm
  subst e
  cases r3
  exact wpAny_truthy_bool ⟨H3,I3,q3⟩
def tChain (r r':R2) (ta tb tc:TE):TE:=fun σ H Q=>ta σ H fun x H1=>tb σ H1 fun y H2=>r x y H2 fun z H3=>∃ k,z = .bl k ∧
  (if k=true then tc σ H3 fun w' H4=>r' y w' H4 Q else Q (.bl false) H3)
theorem pe_chain {op op':CmpOp}{r r':R2} (ho:OpR X (compareOp op) r) (ho':OpR X (compareOp op') r') (ha:PE X a ta) (hb:PE X b tb) (hc:PE X c tc)
    (hm:lastMarks [op,op'] [b,c]=false:=by with_unfolding_all rfl):PE X (.Compare a [op,op'] [b,c] pos) (tChain r r' ta tb tc):=by
  intro pins s σ H Q I h
  refine Compare_chain (thn (ha pins s σ H _ I h) fun v s1 ⟨x,H1,I1,r1,q1⟩=>chain_link (thn (hb pins s1 σ H1 _ I1 q1) fun u s2 ⟨y,H2,I2,r2,q2⟩ =>
    thn (ho pins s2 σ H2 x y v u _ I2 r1 r2 q2) fun d s3 ⟨z,H3,I3,r3,k,e,q3⟩=>?_)) hm
  subst e
  cases r3
  refine wpAny_truthy_bool ?_
  cases k with
  | false=>exact ite_ff ⟨.bl false,H3,I3,rfl,q3⟩
  | true=>exact ite_tt (chain_last (thn (hc pins s3 σ H3 _ I3 q3) fun w' s4 ⟨z',H4,I4,r4,q4⟩=>ho' pins s4 σ H4 y z' u w' Q I4 r2 r4 q4))
def TruV (K:PySem.W.Frag) (x:V) (H:Hp) (k:Bool):Prop :=
  match x with
  | .non=>k=false
  | .bl b=>k=b
  | .int i=>k=(i != 0)
  | .str y=>y.length ≤ sizeLine∧k=((y.length:Int) != 0)
  | .byt y=>y.size ≤ sizeLine∧k=((y.size:Int) != 0)
  | .ref p=>(∃ xs,SqL K H p xs∧k = !xs.isEmpty) ∨ (∃ xs,SqT K H p xs∧k = !xs.isEmpty) ∨ ∃ kvs,H p=some (.dK kvs)∧k = !kvs.isEmpty
  | _=>False
theorem isEmpty_kv {κ:Type}{kvs:List (κ × V)}{vs:List (κ × Value)} (r:KV kvs vs):(!vs.isEmpty) = !kvs.isEmpty:=by
  cases r <;> rfl
theorem isEmpty_of {xs:List V}{its:List Value} (r:Vals xs its):(!its.toArray.isEmpty) = !xs.isEmpty:=by
  cases r <;> simp
theorem line63 : (sizeLine:Nat) < 2 ^ 63:=by rw [sizeLine_eq]; decide
theorem tru_ok : TruR X (fun x H Q=>∃ k,TruV X.K x H k∧Q k H):=by
  intro pins s σ H x v Q I rx h
  obtain ⟨k,e,q⟩:=h
  have hl:=line63
  have hs:sizeLine=16777216:=sizeLine_eq
  cases x with
  | non =>
    cases rx
    have e':k=false:=e
    subst e'
    exact truthy_none ⟨H,I,q⟩
  | bl b =>
    cases rx
    have e':k=b:=e
    subst e'
    exact wpAny_truthy_bool ⟨H,I,q⟩
  | int i =>
    obtain ⟨t,rfl⟩:=rx
    have e':k=(i != 0):=e
    subst e'
    exact PySem.P.truthy_int ⟨H,I,q⟩
  | str y =>
    obtain ⟨t,rfl⟩:=rx
    obtain ⟨hy,e'⟩:y.length ≤ sizeLine∧k=((y.length:Int) != 0):=e
    subst e'
    exact PySem.P.truthy_str (by omega) ⟨H,I.tok _,q⟩
  | byt y =>
    obtain ⟨t,rfl⟩:=rx
    obtain ⟨hy,e'⟩:y.size ≤ sizeLine∧k=((y.size:Int) != 0):=e
    subst e'
    exact PySem.W.truthy_bytes (by omega) ⟨H,I.tok _,q⟩
  | ref p =>
    cases rx
    have e':(∃ xs,SqL X.K H p xs∧k = !xs.isEmpty) ∨ (∃ xs,SqT X.K H p xs∧k = !xs.isEmpty) ∨ ∃ kvs,H p=some (.dK kvs)∧k = !kvs.isEmpty:=e
    rcases e' with ⟨xs,hx,e'⟩ | ⟨xs,hx,e'⟩ | ⟨kvs,hx,e'⟩
    · subst e'
      obtain ⟨its,r,pl,hz⟩:=I.list hx
      have hlen:=r.length
      exact wpAny_truthy_list pl.isList (by simp only [List.size_toArray]; omega) ⟨H,I.tok _,by rw [isEmpty_of r]; exact q⟩
    · subst e'
      obtain ⟨its,r,pl,hz⟩:=I.tuple hx
      have hlen:=r.length
      exact truthy_tuple pl (by simp only [List.size_toArray]; omega) ⟨H,I.tok _,by rw [isEmpty_of r]; exact q⟩
    · subst e'
      obtain ⟨hz,hS,vs,r,m⟩:kvs.length ≤ sizeLine∧(p == sysModules)=false∧∃ vs,KV kvs vs∧s.heap.DictOf (mixKind X.prog X.w) p vs:=I.hok p _ hx
      have hlen:kvs.length=vs.length:=Paired.length r
      exact wpAny_truthy_dict hS m (by omega) ⟨H,I.tok _,by rw [isEmpty_kv r]; exact q⟩
  | _=>exact (show False from e).elim
theorem pt_truth (ha:PE X a ta) (he:∀ whole,isTrue a X.env whole=(do let v ← whole; standAt a.pos; holding [v] (truthy v))) :
    PT X a (fun σ H Q=>ta σ H fun x H'=>∃ k,TruV X.K x H' k∧Q k H'):=by
  intro pins s σ H Q I h
  exact isTrue_plain (thn (ha pins s σ H _ I h) fun v s1 ⟨x,H1,I1,r1,q1⟩=>tru_ok pins s1 σ H1 x v Q I1 r1 q1) (he _)
theorem vals1 {x:V}{us:List Value} (r:Vals [x] us):∃ u,us=[u]∧RelV x u:=by
  cases r with
  | cons r1 r2=>cases r2; exact ⟨_,rfl,r1⟩
theorem vals2 {x y:V}{us:List Value} (r:Vals [x,y] us):∃ u w',us=[u,w']∧RelV x u∧RelV y w':=by
  cases r with
  | cons r1 r2 =>
    cases r2 with
    | cons r3 r4=>cases r4; exact ⟨_,_,rfl,r1,r3⟩
theorem call_max2 (hc:X.calm=true):CallR X (.builtin "max") (fun xs H Q=>∃ i j,xs=[.int i,.int j]∧Q (.int (if j > i then j else i)) H):=by
  intro pins s σ H xs us Q I r h
  obtain ⟨i,j,rfl,q⟩:=h
  obtain ⟨u,w',rfl,⟨t,rfl⟩,⟨t',rfl⟩⟩:=vals2 r
  refine max_two_ints (I.ok.hd hc) fun h' tk k=>⟨_,H,I.kept k,?_,q⟩
  by_cases hj:j > i
  · rw [if_pos hj,if_pos hj]; exact ⟨_,rfl⟩
  · rw [if_neg hj,if_neg hj]; exact ⟨_,rfl⟩
theorem call_min2 (hc:X.calm=true):CallR X (.builtin "min") (fun xs H Q=>∃ i j,xs=[.int i,.int j]∧Q (.int (if j < i then j else i)) H):=by
  intro pins s σ H xs us Q I r h
  obtain ⟨i,j,rfl,q⟩:=h
  obtain ⟨u,w',rfl,⟨t,rfl⟩,⟨t',rfl⟩⟩:=vals2 r
  refine min_two_ints (I.ok.hd hc) fun h' tk k=>⟨_,H,I.kept k,?_,q⟩
  by_cases hj:j < i
  · rw [if_pos hj,if_pos hj]; exact ⟨_,rfl⟩
  · rw [if_neg hj,if_neg hj]; exact ⟨_,rfl⟩
end
end L2
namespace L2
open PySem PySem.Spec PyProof.Rows
structure ObjM (h:Heap) (x dx C:Addr) (mA:Str->Option Value):Prop where
  obj:h.get? x=some (PySem.W.instObj C dx)
  ns:h.Ns1 dx mA
  ne:dx ≠ x
theorem lookIn_ns {h:Heap}{dx:Addr}{mA:Str->Option Value} (n:h.Ns1 dx mA):∃ od,h.get? dx=some od∧∀ name,PySem.W.lookIn name od=some (mA name):=by
  obtain ⟨o,es,ep,ho,hd,hk,_,hm⟩:=n
  refine ⟨o,ho,fun name=>?_⟩
  have e:=hm name
  unfold nsFind findBy at e
  rw [← Array.find?_toList] at e
  unfold PySem.W.lookIn
  rw [hd]
  dsimp only
  split
  · rename_i y q
    rw [q] at e
    exact congrArg some e
  · rename_i q
    rw [q] at e
    have a:es.toList.any (·.refKey)=false:=by
      rw [List.any_eq_false]
      intro y hy
      obtain ⟨z,t,hkey⟩:=hk y (Array.mem_toList_iff.mp hy)
      simp [DictEntry.refKey,hkey]
    have a':¬ es.toList.any (·.refKey)=true:=by rw [a]; exact Bool.false_ne_true
    rw [if_neg a']
    exact congrArg some e
theorem ObjM.look {h:Heap}{x dx C:Addr}{mA:Str->Option Value} (I:ObjM h x dx C mA):∃ od,PySem.W.InstAt h x (PySem.W.instObj C dx) C (some od)∧∀ name,PySem.W.lookIn name od=some (mA name) :=
  let ⟨od,ho,hl⟩:=lookIn_ns I.ns
  ⟨od,⟨I.obj,rfl,rfl,ho⟩,hl⟩
section
variable {prog:Program}{w:World}{A:Around}{E:Value->Shared->Prop}{s:Shared}{K:PySem.W.Frag}{x dx C f:Addr}{mA:Str->Option Value}{name:Str}{v:Value}
theorem get_map {expr:Bool}{Q:Value->Shared->Prop} (X:K.In s.heap) (I:ObjM s.heap x dx C mA) (hg:PySem.W.plainGet K C name=true) (hh:PySem.W.hasDictIn K C=true)
    (ha:PySem.W.findIn K (.ref C) name=some none) (hv:mA name=some v) (hv':PySem.W.handedIn v=true) (h:Q v { s with toks:=s.toks + 1 }) :
    wpAny (model prog w) A (getAttr (.ref x) name expr) Q E s:=by
  obtain ⟨od,J,hl⟩:=I.look
  exact PySem.W.get_value X J (PySem.W.plainGet_of hg).1 (PySem.W.findObj_own hh ha rfl (by rw [hl,hv])) hv' h
theorem get_meth {pl:Sem Bool}{Q:Value × List Value->Shared->Prop} (X:K.In s.heap) (I:ObjM s.heap x dx C mA) (hg:PySem.W.plainGet K C name=true)
    (hf:PySem.W.findIn K (.ref C) name=some (some (.ref f))) (ht:PySem.W.isFn K (.ref f)=true) (hv:mA name=none) (h:Q (.ref f,[.ref x]) s) :
    wpAny (model prog w) A (getMethod (.ref x) name pl) Q E s:=by
  obtain ⟨od,J,hl⟩:=I.look
  exact PySem.W.method_fn X J (PySem.W.plainGet_of hg).1 (PySem.W.plainGet_of hg).2 hf (beq_iff_eq.mp ht) (by show (PySem.W.lookIn name od).map (·.isSome)=some false; rw [hl,hv]; rfl) h
theorem set_map {ns:List Str}{Q:Unit->Shared->Prop} (X:K.In s.heap) (I:ObjM s.heap x dx C mA)
    (hs:PySem.W.findIn K (.ref C) "__setattr__" = some (some (.builtin "object.__setattr__"))) (hp:PySem.W.plainOver K C=true) (ht:PySem.W.takerIn K C name=some none) (hh:PySem.W.hasDictIn K C=true)
    (hw:PySem.Within mA ns) (hsz:ns.length ≤ sizeLine)
    (h:∀ h',ObjM h' x dx C (fun y=>if y=name then some v else mA y)->Heap.SameBut dx s.heap h'->Q () { s with heap:=h',toks:=s.toks + 2 }) :
    wpAny (model prog w) A (setAttr (.ref x) name v) Q E s:=by
  obtain ⟨od,J,hl⟩:=I.look
  refine PySem.W.set_plain X J hs (PySem.W.osa_open (s:={ s with toks:=s.toks + 1 }) (r:=none) X J hp ht fun b=>?_)
  obtain ⟨cd,hc,hd'⟩:=PySem.W.any_some hh
  have hx:s.heap.get? x=some ⟨.ref C,some dx,.plain,#[]⟩:=I.obj
  refine wpAny_bind (wpAny_pure (wpAny_bind (wpAny_bind (wpAny_loadPart hx (wpAny_bind (PySem.W.Looks.here (s:={ s with toks:=s.toks + 1 }) (PySem.W.looks_clsIn X hc) ?_))))))
  rw [hd']
  refine wpAny_pure (a:=some dx) (wpAny_bind (wpAny_pure (wpAny_bind ?_)))
  refine wpAny_nsSet1 (s:={ s with toks:=s.toks + 1 }) I.ns fun h' hn2 hs2=>?_
  obtain ⟨oD,esD,epD,hoD,hdD,hcD⟩:=hn2.count (PySem.Within.cons name v hw)
  refine wpAny_bind (wpAny_lookBehind hoD (by rw [hdD]; exact pastItsLine_dict (Nat.le_trans hcD (by rw [List.length_cons]; omega))) ?_)
  exact wpAny_pure (h _ ⟨(hs2.2 _ (Ne.symm I.ne)).trans I.obj,hn2,I.ne⟩ hs2)
theorem make_map {R:Result->Shared->Prop}{vs:List Value}{kw:List (Str × Value)} (X:K.In s.heap) (hm:PySem.W.makesIn K C=true)
    (hi:PySem.W.findIn K (.ref C) "__init__" = some (some (.ref f))) (hf:PySem.W.typeIn K (.ref f)=some (.type "function"))
    (h:codeAny (model prog w) (A.under (.builtin "type.__call__" ⟨.ref C :: vs,kw⟩)) (.call (.ref f) ⟨.ref (s.heap.objs.size + 1) :: vs,kw⟩) (PySem.W.InitBack (s.heap.objs.size + 1) R)
      { s with heap:=(s.heap.push PySem.W.emptyDict).push (PySem.W.instObj C s.heap.objs.size) }) :
    codeAny (model prog w) A (.call (.ref C) ⟨vs,kw⟩) R s:=by
  obtain ⟨hh,g,d,t,os⟩:=s
  exact PySem.W.make_core (PySem.W.makes_of X hm) (PySem.W.looks_findIn X hi) (fun self=>PySem.W.bind_fn X self hf) (.inl rfl) h
end
def putF (f:Str) (v:V):List (Str × V)->List (Str × V)
  | []=>[(f,v)]
  | (g,x) :: r=>if g=f then (g,v) :: r else (g,x) :: putF f v r
theorem lookup_putF (f g:Str) (v:V):∀ fs:List (Str × V),(putF f v fs).lookup g=if g=f then some v else fs.lookup g
  | []=>by
    show List.lookup g [(f,v)]=_
    by_cases h:g=f
    · have hb:(g == f)=true:=beq_iff_eq.mpr h
      simp only [List.lookup,hb,if_pos h]
    · have hb:(g == f)=false:=beq_eq_false_iff_ne.mpr h
      simp only [List.lookup,hb,if_neg h]
  | (k,x) :: r=>by
    have ih:=lookup_putF f g v r
    rw [show putF f v ((k,x) :: r)=(if k=f then (k,v) :: r else (k,x) :: putF f v r) from rfl]
    by_cases hk:k=f
    · rw [if_pos hk]
      by_cases h:g=k
      · have hb:(g == k)=true:=beq_iff_eq.mpr h
        simp only [List.lookup,hb,if_pos (h.trans hk)]
      · have hb:(g == k)=false:=beq_eq_false_iff_ne.mpr h
        simp only [List.lookup,hb,if_neg (fun e:g=f=>h (e.trans hk.symm))]
    · rw [if_neg hk]
      by_cases h:g=k
      · have hb:(g == k)=true:=beq_iff_eq.mpr h
        simp only [List.lookup,hb,if_neg (fun e:g=f=>hk (h.symm.trans e))]
      · have hb:(g == k)=false:=beq_eq_false_iff_ne.mpr h
        simp only [List.lookup,hb]
        exact ih
theorem keys_putF (f:Str) (v:V):∀ fs:List (Str × V),f ∈ (putF f v fs).map (·.1)∧∀ g,g ∈ fs.map (·.1)->g ∈ (putF f v fs).map (·.1)
  | []=>⟨by simp [putF],fun g h=>by simp at h⟩
  | (k,x) :: r=>by
    obtain ⟨i1,i2⟩:=keys_putF f v r
    rw [show putF f v ((k,x) :: r)=(if k=f then (k,v) :: r else (k,x) :: putF f v r) from rfl]
    by_cases hk:k=f
    · rw [if_pos hk]
      subst hk
      exact ⟨by simp,fun g h=>by simpa using h⟩
    · rw [if_neg hk]
      refine ⟨?_,fun g h=>?_⟩
      · rw [List.map_cons]
        exact List.mem_cons_of_mem _ i1
      · rw [List.map_cons] at h ⊢
        rcases List.mem_cons.mp h with e | e
        · exact List.mem_cons.mpr (.inl e)
        · exact List.mem_cons_of_mem _ (i2 g e)
theorem length_putF (f:Str) (v:V):∀ fs:List (Str × V),(putF f v fs).length ≤ fs.length + 1
  | []=>by simp [putF]
  | (k,x) :: r=>by
    have ih:=length_putF f v r
    rw [show putF f v ((k,x) :: r)=(if k=f then (k,v) :: r else (k,x) :: putF f v r) from rfl]
    by_cases hk:k=f
    · rw [if_pos hk,List.length_cons,List.length_cons]; omega
    · rw [if_neg hk,List.length_cons,List.length_cons]; omega
theorem RelO.some_of {v:V}{o:Option Value} (r:RelO (some v) o):∃ u,o=some u∧RelV v u:=by
  cases o with
  | none=>exact (show False from r).elim
  | some u=>exact ⟨u,rfl,r⟩
theorem RelO.none_of {o:Option Value} (r:RelO none o):o=none:=by
  cases o with
  | none=>rfl
  | some u=>exact (show False from r).elim
theorem handed_of {v:V}{u:Value} (r:RelV v u):PySem.W.handedIn u=true:=by
  cases v with
  | non=>cases (show u=Value.none from r); rfl
  | bl b=>cases (show u=Value.bool b from r); rfl
  | int i=>obtain ⟨t,e⟩:=(show ∃ t,u=Value.int i t from r); cases e; rfl
  | str x=>obtain ⟨t,e⟩:=(show ∃ t,u=Value.str x t from r); cases e; rfl
  | byt b=>obtain ⟨t,e⟩:=(show ∃ t,u=Value.bytes b t from r); cases e; rfl
  | flt b=>obtain ⟨t,e⟩:=(show ∃ t,u=Value.float b t from r); cases e; rfl
  | ref a=>cases (show u=Value.ref a from r); rfl
  | ty n=>cases (show u=Value.type n from r); rfl
section
variable {P:Program}{w:World}{H H':Hp}{h h':Heap}{a C dx:Addr}{fs fs':List (Str × V)}
theorem ins_get (hok:HOk P w H h) (e:H a=some (.ins C dx fs)):∃ mA,ObjM h a dx C mA∧(∀ f,RelO (fs.lookup f) (mA f))∧PySem.Within mA (fs.map (·.1))∧fs.length ≤ 1000∧H dx=some (.own a):=by
  obtain ⟨d,z,ne,ob,mA,n,r,q⟩:=(show ObjOk P w H h a (.ins C dx fs) from hok a _ e)
  exact ⟨mA,⟨ob,n,ne⟩,r,q,z,d⟩
end
structure Cls (K:PySem.W.Frag) (C:Addr):Prop where
  pg:PySem.W.plainGet K C Str.empty=true
  hd:PySem.W.hasDictIn K C=true
  po:PySem.W.plainOver K C=true
  sa:PySem.W.findIn K (.ref C) "__setattr__" = some (some (.builtin "object.__setattr__"))
theorem Cls.get {K:PySem.W.Frag}{C:Addr} (c:Cls K C) (f:Str):PySem.W.plainGet K C f=true:=c.pg
def NoAttr (K:PySem.W.Frag) (C:Addr) (f:Str):Prop:=PySem.W.findIn K (.ref C) f=some none
theorem NoAttr.taker {K:PySem.W.Frag}{C:Addr}{f:Str} (n:NoAttr K C f):PySem.W.takerIn K C f=some none:=by
  unfold PySem.W.takerIn
  rw [show PySem.W.findIn K (.ref C) f=some none from n]
  rfl
structure Meth (K:PySem.W.Frag) (C:Addr) (m:Str) (f:Addr):Prop where
  at_:PySem.W.findIn K (.ref C) m=some (some (.ref f))
  fn:PySem.W.isFn K (.ref f)=true
  kp:PySem.W.keepIn K (.ref f)=true
section
variable {X:Cx}{pins:List (Addr × Obj)}{σ:St}{H:Hp}{s:Shared}{a C dx:Addr}{fs:List (Str × V)}{f:Str}{v:V}{A:Around}{E:Value->Shared->Prop}
theorem getattr_ok {b:Bool}{Q:Value->Shared->Prop} (I:Inv X pins σ H s) (e:H a=some (.ins C dx fs)) (c:Cls X.K C) (n:NoAttr X.K C f) (l:fs.lookup f=some v)
    (h:∀ u s',Inv X pins σ H s'->RelV v u->Q u s'):wpAny (model X.prog X.w) A (getAttr (.ref a) f b) Q E s:=by
  obtain ⟨mA,O,r,_,_,_⟩:=ins_get I.hok e
  obtain ⟨u,hu,ru⟩:=RelO.some_of (v:=v) (o:=mA f) (by rw [← l]; exact r f)
  exact get_map I.kIn O (c.get f) c.hd n hu (handed_of ru) (h u _ (I.tok _) ru)
theorem getmeth_ok {m:Str}{g:Addr}{pl:Sem Bool}{Q:Value × List Value->Shared->Prop} (I:Inv X pins σ H s) (e:H a=some (.ins C dx fs)) (c:Cls X.K C) (k:Meth X.K C m g) (l:fs.lookup m=none)
    (h:Q (.ref g,[.ref a]) s):wpAny (model X.prog X.w) A (getMethod (.ref a) m pl) Q E s:=by
  obtain ⟨mA,O,r,_,_,_⟩:=ins_get I.hok e
  have hn:mA m=none:=RelO.none_of (by rw [← l]; exact r m)
  exact get_meth I.kIn O (c.get m) k.at_ k.fn hn h
theorem setattr_ok {y:V}{u:Value}{Q:Unit->Shared->Prop} (I:Inv X pins σ H s) (e:H a=some (.ins C dx fs)) (c:Cls X.K C) (n:NoAttr X.K C f) (hl:fs.length < 1000) (ry:RelV y u)
    (h:∀ s',Inv X pins σ (upd H a (.ins C dx (putF f y fs))) s'->Q () s'):wpAny (model X.prog X.w) A (setAttr (.ref a) f u) Q E s:=by
  obtain ⟨mA,O,r,wi,_,ho⟩:=ins_get I.hok e
  have hz:(fs.map (·.1)).length ≤ sizeLine:=by rw [List.length_map,sizeLine_eq]; omega
  refine set_map I.kIn O c.sa c.po n.taker c.hd wi hz fun h' O' sb=>h _ ?_
  have hd:∃ o,h'.get? dx=some o:=let ⟨o,_,_,e',_⟩:=O'.ns; ⟨o,e'⟩
  refine I.write (x:=a) (e:=dx) (by rw [e]; exact True.intro) (.inr ho) (fun b q hb z=>(sb.2 b hb).trans z) hd ?_
  refine ⟨by rw [upd_ne O.ne]; exact ho,?_,O.ne,O'.obj,_,O'.ns,fun g=>?_,fun g hg=>?_⟩
  · have:=length_putF f y fs; omega
  · show RelO ((putF f y fs).lookup g) (if g=f then some u else mA g)
    rw [lookup_putF]
    by_cases q:g=f
    · rw [if_pos q,if_pos q]; exact ry
    · rw [if_neg q,if_neg q]; exact r g
  · by_cases q:g=f
    · rw [q]; exact (keys_putF f y fs).1
    · refine (keys_putF f y fs).2 g (wi g fun z=>hg ?_)
      show (if g=f then some u else mA g)=none
      rw [if_neg q]; exact z
theorem Inv.made (I:Inv X pins σ H s):Inv X pins σ (upd (upd H s.heap.objs.size (.own (s.heap.objs.size + 1))) (s.heap.objs.size + 1) (.ins C s.heap.objs.size []))
    { s with heap:=(s.heap.push PySem.W.emptyDict).push (PySem.W.instObj C s.heap.objs.size) }:=by
  have e1:(s.heap.push PySem.W.emptyDict).get? s.heap.objs.size=some PySem.W.emptyDict:=Heap.get?_push_size s.heap rfl
  have e2:((s.heap.push PySem.W.emptyDict).push (PySem.W.instObj C s.heap.objs.size)).get? (s.heap.objs.size + 1)=some (PySem.W.instObj C s.heap.objs.size):=by
    have:=Heap.get?_push_size (s.heap.push PySem.W.emptyDict) (o:=PySem.W.instObj C s.heap.objs.size) rfl
    rwa [Heap.size_push] at this
  have e3:(s.heap.push PySem.W.emptyDict).Ns s.heap.objs.size (fun _=>none):=⟨PySem.W.emptyDict,#[],_,e1,rfl,(fun e he=>absurd he (by simp)),fun _=>rfl⟩
  have I1:=I.laid (a:=s.heap.objs.size) (o:=.own (s.heap.objs.size + 1)) (h':=s.heap.push PySem.W.emptyDict) (t':=s.toks) (fun b u q=>Heap.get?_push_of_some _ q) (Nat.le_refl _) ⟨_,e1⟩
  refine I1.laid (a:=s.heap.objs.size + 1) (o:=.ins C s.heap.objs.size []) (t':=s.toks) (fun b u q=>Heap.get?_push_of_some _ q) (Nat.le_of_eq (Heap.size_push _ _)) ?_
  have ne:s.heap.objs.size ≠ s.heap.objs.size + 1:=Nat.ne_of_lt (Nat.lt_succ_self _)
  refine ⟨by rw [upd_ne ne,upd_same],Nat.zero_le _,ne,e2,fun _=>none,(Heap.Ns1.of_empty e3).at fun o q=>Heap.get?_push_of_some _ q,fun _=>True.intro,fun y hy=>absurd rfl hy⟩
theorem attr_of {prog:Program}{w:World}{env:Env}{e:Expr}{f:Str}{pos:Pos}{s:Shared}{Q:Value->Shared->Prop} (hb:attributeBase e f env (eval e env)=eval e env)
    (h:wpAny (model prog w) A (eval e env) (fun o s₁=>wpAny (model prog w) A (getAttr o f true) Q E s₁) E s):wpAny (model prog w) A (eval (.Attribute e f pos) env) Q E s :=
  Attribute_any_ h (by rw [arm_eval_Attribute,hb])
end
def tFld (K:PySem.W.Frag) (ta:TE) (f:Str):TE:=fun σ H Q=>ta σ H fun x H1=>∃ a C dx fs v,x = .ref a∧H1 a=some (.ins C dx fs)∧Cls K C∧NoAttr K C f∧fs.lookup f=some v∧Q v H1
def sFld (K:PySem.W.Frag) (ta tv:TE) (f:Str):TS:=fun D σ H=>tv σ H fun y H1=>ta σ H1 fun x H2=>∃ a C dx fs,x = .ref a∧H2 a=some (.ins C dx fs)∧Cls K C∧NoAttr K C f∧fs.length < 1000 ∧
  D.nx σ (upd H2 a (.ins C dx (putF f y fs)))
def InOp (X:Cx) (op:Operator) (rd:V->V->Hp->VK->Prop):Prop :=
  ∀ (pins:List (Addr × Obj)) (s:Shared) (σ:St) (H:Hp) (x y:V) (u v:Value) (Q:VK),Inv X pins σ H s->RelV x u->RelV y v->rd x y H Q->wpAny (model X.prog X.w) X.A (inplaceOp op u v) (EP X pins σ Q) X.xe s
def sFldAug (K:PySem.W.Frag) (ta tv:TE) (rd:V->V->Hp->VK->Prop) (f:Str):TS:=fun D σ H=>ta σ H fun x H1=>∃ a C dx fs v,x = .ref a∧H1 a=some (.ins C dx fs)∧Cls K C∧NoAttr K C f∧fs.lookup f=some v ∧
  tv σ H1 fun y H2=>rd v y H2 fun z H3=>∃ dx' fs',H3 a=some (.ins C dx' fs')∧fs'.length < 1000∧D.nx σ (upd H3 a (.ins C dx' (putF f z fs')))
section
variable {X:Cx}{o e value:Expr}{f:Str}{pos pos' tpos:Pos}{ta tv:TE}
theorem pe_fld (he:PE X e ta) (hb:attributeBase e f X.env (eval e X.env)=eval e X.env):PE X (.Attribute e f pos) (tFld X.K ta f):=by
  intro pins s σ H Q I h
  refine attr_of hb (thn (he pins s σ H _ I h) fun u s1 ⟨x,H1,I1,rx,a,C,dx,fs,v,ex,ea,c,n,l,q⟩=>?_)
  subst ex
  obtain rfl:u=Value.ref a:=rx
  exact getattr_ok I1 ea c n l fun u' s2 I2 ru=>⟨v,H1,I2,ru,q⟩
theorem ps_fld (ha:PE X o ta) (hv:PE X value tv) (hs:swapsWith value (some (.Attribute o f pos')) pos.line X.env=pure false):PS X (.Assign [.Attribute o f pos'] value pos) (sFld X.K ta tv f):=by
  intro pins s σ H D I h
  refine plainObj_wpAny_Assign_Attribute (thn (hv pins s σ H _ I h) fun u s1 ⟨y,H1,I1,ry,q⟩=>thn (ha pins s1 σ H1 _ I1 q) fun ov s2 ⟨x,H2,I2,rx,a,C,dx,fs,ex,ea,c,n,l,q2⟩=>?_) hs
  subst ex
  obtain rfl:ov=Value.ref a:=rx
  exact setattr_ok I2 ea c n l ry fun s3 I3=>⟨σ,_,I3,q2⟩
theorem ps_fldaug {op:Operator}{rd:V->V->Hp->VK->Prop} (ha:PE X o ta) (hv:PE X value tv) (hop:InOp X op rd):PS X (.AugAssign (.Attribute o f tpos) op value pos) (sFldAug X.K ta tv rd f):=by
  intro pins s σ H D I h
  refine wpAny_AugAssign_AttributeAny (thn (ha pins s σ H _ I h) fun ov s1 ⟨x,H1,I1,rx,a,C,dx,fs,v,ex,ea,c,n,l,q⟩=>?_)
  subst ex
  obtain rfl:ov=Value.ref a:=rx
  refine getattr_ok I1 ea c n l fun u s2 I2 ru=>thn (hv pins s2 σ H1 _ I2 q) fun w3 s3 ⟨y,H2,I3,ry,q3⟩=>thn (hop pins s3 σ H2 v y u w3 _ I3 ru ry q3) fun w4 s4 ⟨z,H3,I4,rz,dx',fs',ea',l',q4⟩=>?_
  exact setattr_ok I4 ea' c n l' rz fun s5 I5=>⟨σ,_,I5,q4⟩
def rAdd : V->V->Hp->VK->Prop:=fun x y H Q=>∃ i j,x = .int i∧y = .int j∧Q (.int (i + j)) H
theorem in_add : InOp X .Add rAdd:=by
  rintro pins s σ H x y u v Q I rx ry ⟨i,j,rfl,rfl,q⟩
  obtain ⟨t,rfl⟩:=(show ∃ t,u=Value.int i t from rx)
  obtain ⟨t',rfl⟩:=(show ∃ t',v=Value.int j t' from ry)
  exact PyProof.Rows.iadd_int ⟨.int (i + j),H,I.tok _,⟨_,rfl⟩,q⟩
end
section
variable {X:Cx}{pins:List (Addr × Obj)}{σ:St}{H:Hp}{s:Shared}{A:Around}{E:Value->Shared->Prop}{Q:Value->Shared->Prop}{c:Value}{b:Bool}
end
end L2
namespace L2
open PySem PySem.Spec PyProof.Rows
structure Room (k:Nat) (A:Around):Prop where
  hd:A.handled=none
  dp:A.depth + 3 * k + 5 < recursionLimit
  un:A.units + 16 * k + 200 < cLine
theorem Room.mono {j k:Nat}{A:Around} (r:Room k A) (h:j ≤ k):Room j A:=⟨r.hd,by have:=r.dp; omega,by have:=r.un; omega⟩
theorem Room.deeper {k:Nat}{A:Around} (r:Room (k + 1) A) (env:Env):Room k (A.deeper env) :=
  ⟨r.hd,by have:=r.dp; show A.depth + 1 + 3 * k + 5 < _; omega,by have:=r.un; show A.units + 3 + 16 * k + 200 < _; omega⟩
theorem make_depth {A:Around}{C:Addr}{us:List Value}{kw:List (Str × Value)}:(A.under (.builtin "type.__call__" ⟨.ref C :: us,kw⟩)).depth=A.depth + 1:=by
  first | rfl | simp [Around.under,Code.weight,Code.isCreation,Code.isGuard,Code.isCaller,Code.frames,Code.isFrame,guardIds]
theorem make_units {A:Around}{C:Addr}{us:List Value}{kw:List (Str × Value)}:(A.under (.builtin "type.__call__" ⟨.ref C :: us,kw⟩)).units=A.units + 1:=by
  first | rfl | simp [Around.under,Code.cUnits,Code.frames,Code.isFrame]
theorem Room.make {k:Nat}{A:Around} (r:Room (k + 1) A) (C:Addr) (us:List Value) (kw:List (Str × Value)):Room k (A.under (.builtin "type.__call__" ⟨.ref C :: us,kw⟩)) :=
  ⟨r.hd,by have:=r.dp; rw [make_depth]; omega,by have:=r.un; rw [make_units]; omega⟩
theorem Room.depth {k:Nat}{A:Around} (r:Room k A):A.depth < recursionLimit:=by have:=r.dp; omega
theorem Room.units {k:Nat}{A:Around} (r:Room k A):A.units + 64 < cLine:=by have:=r.un; omega
def tNil : TA:=fun _ H Q=>Q [] H
def tCons (ta:TE) (tr:TA):TA:=fun σ H Q=>ta σ H fun x H1=>tr σ H1 fun xs H2=>Q (x :: xs) H2
section
variable {X:Cx}{e:Expr}{es:List Expr}{te:TE}{t:TA}{pos:Pos}
theorem pa_nil : PA X [] tNil:=fun _ _ _ _ H Q I h=>Calls.spliced_nil ⟨[],H,I,.nil,h⟩
theorem pa_cons (ha:PE X e te) (hr:PA X es t) (hs:starEach (e :: es) X.env=(false,eval e X.env) :: starEach es X.env:=by rfl):PA X (e :: es) (tCons te t):=by
  intro pos pins s σ H Q I h
  rw [hs]
  show wpAny _ _ (spliced ((false,eval e X.env) :: backTo pos (starEach es X.env))) _ _ s
  refine Calls.spliced_cons (thn (ha pins s σ H _ I h) fun u s1 ⟨x,H1,I1,r1,q1⟩=>?_)
  exact thn (hr pos pins s1 σ H1 _ I1 q1) fun us s2 ⟨xs,H2,I2,r2,q2⟩=>⟨x :: xs,H2,I2,.cons r1 r2,q2⟩
def tTup (t:TA):TE:=fun σ H Q=>t σ H fun xs H1=>xs.length ≤ sizeLine∧∀ p,H1 p=none->Q (.ref p) (upd H1 p (.tup xs))
def tLst (t:TA):TE:=fun σ H Q=>t σ H fun xs H1=>xs.length ≤ sizeLine∧∀ p,H1 p=none->Q (.ref p) (upd H1 p (.lst xs))
theorem pe_tup {x1} (h:PA X es t):PE X (.Tuple es x1 pos) (tTup t):=by
  intro pins s σ H Q I hq
  refine wpAny_Tuple_spliced (thn (h pos pins s σ H _ I hq) fun us s1 ⟨xs,H1,I1,r,z,q⟩=>⟨by rw [← r.length]; exact z,?_⟩)
  have hf:H1 s1.heap.objs.size=none:=I1.hok.fresh (Nat.le_refl _)
  refine ⟨.ref s1.heap.objs.size,upd H1 s1.heap.objs.size (.tup xs),I1.laid (t':=s1.toks) (fun b u e=>Heap.get?_push_of_some _ e) (Nat.le_refl _) ?_,rfl,q _ hf⟩
  exact ⟨z,us,r,⟨_,Heap.get?_push_size _ rfl,rfl,_,rfl⟩⟩
theorem pe_lst (h:PA X es t):PE X (.List es pos) (tLst t):=by
  intro pins s σ H Q I hq
  refine wpAny_List_spliced (thn (h pos pins s σ H _ I hq) fun us s1 ⟨xs,H1,I1,r,z,q⟩=>⟨by rw [← r.length]; exact z,?_⟩)
  have hf:H1 s1.heap.objs.size=none:=I1.hok.fresh (Nat.le_refl _)
  refine ⟨.ref s1.heap.objs.size,upd H1 s1.heap.objs.size (.lst xs),I1.laid (t':=s1.toks) (fun b u e=>Heap.get?_push_of_some _ e) (Nat.le_refl _) ?_,rfl,q _ hf⟩
  exact ⟨z,us,0,r,Heap.get?_push_size _ rfl⟩
end
abbrev Sp:=List V->Hp->VK->XK->Prop
abbrev CXT:=List Env->Hp->Shared->XK->Value->Shared->Prop
structure Env0 (P:Program) (w:World) (K:PySem.W.Frag) (mg:Str->Option Value) (base:Heap) (A:Around) (outer:List Env) (s:Shared) (H:Hp):Prop where
  frames:A.frames=some outer
  mod:Mod K mg base
  bs:∀ b o,base.get? b=some o->s.heap.get? b=some o∧H b=none
  bsz:base.objs.size ≤ s.heap.objs.size
  funs:s.heap.FunFrames base outer
  frf:∀ b ∈ frs outer,H b=none
  hok:HOk P w H s.heap
  bare:AllBare s.gens
def CE (outer:List Env) (P:Program) (w:World) (H:Hp) (s:Shared) (Q:VK) (u:Value) (s':Shared):Prop :=
  ∃ v H',s'.os=s.os∧AllBare s'.gens∧Un (frs outer) [] H H' s.heap s'.heap∧HOk P w H' s'.heap∧RelV v u∧Q v H'
def CR (CX:CXT) (outer:List Env) (P:Program) (w:World) (H:Hp) (s:Shared) (Q:VK) (E:XK) (r:Result) (s':Shared):Prop :=
  match r with
  | .ok (.ret u)=>CE outer P w H s Q u s'
  | .ok _=>False
  | .error e=>CX outer H s E e s'
structure FnOk (P:Program) (w:World) (K:PySem.W.Frag) (mg:Str->Option Value) (base:Heap) (CX:CXT) (k:Nat) (f:Addr) (fd:FuncData) (ps:List Str) (sp:Sp):Prop where
  len:∀ vs H Q E,sp vs H Q E->vs.length=ps.length
  run:∀ (A:Around) (outer:List Env) (s:Shared) (H:Hp) (args:Args) (us:List Value) (vs:List V) (Q:VK) (E:XK),Room k A->Env0 P w K mg base A outer s H->BindsTo s fd args (ps.zip us)->Vals vs us->sp vs H Q E →
    codeAny (model P w) A (.call (.ref f) args) (CR CX outer P w H s Q E) s
theorem Env0.make {P:Program}{w:World}{K:PySem.W.Frag}{mg:Str->Option Value}{base:Heap}{A:Around}{outer:List Env}{s:Shared}{H:Hp} (e:Env0 P w K mg base A outer s H) (C:Addr) (us:List Value) (kw:List (Str × Value)) :
    Env0 P w K mg base (A.under (.builtin "type.__call__" ⟨.ref C :: us,kw⟩)) outer s H:=⟨by first | exact e.frames | (simpa [Around.under,Code.envs,Code.isFrame,pushEnvs] using e.frames),e.mod,e.bs,e.bsz,e.funs,e.frf,e.hok,e.bare⟩
section
variable {X:Cx}{pins:List (Addr × Obj)}{σ:St}{H:Hp}{s s':Shared}
theorem Inv.env0 (I:Inv X pins σ H s):Env0 X.prog X.w X.K X.mg X.base X.A X.stack s H :=
  ⟨I.ok.frames,I.ok.mod,I.bs,Nat.le_trans I.ok.bsz I.sz,I.stack,I.stkFree,I.hok,I.bare⟩
theorem Inv.after {Q:VK}{u:Value} (I:Inv X pins σ H s) (h:CE X.stack X.prog X.w H s Q u s'):EP X pins σ Q u s':=by
  obtain ⟨v,H',os,bare,un,hok,r,q⟩:=h
  obtain ⟨hh,g,d,t,os'⟩:=s'
  obtain rfl:os'=s.os:=os
  exact ⟨v,H',I.call (h':=hh) (g':=g) (d':=d) (t':=t) (ch:=[]) un hok bare (fun b z=>absurd z (by simp)),r,q⟩
end
def tCall (sp:Sp) (dvs:List V) (E:XK) (t:TA):TE:=fun σ H Q=>t σ H fun vs H1=>sp (vs ++ dvs) H1 Q E
def tMeth (C:Addr) (m:Str) (sp:Sp) (dvs:List V) (E:XK) (ta:TE) (t:TA):TE:=fun σ H Q=>ta σ H fun x H1=>∃ a dx fs,x = .ref a∧H1 a=some (.ins C dx fs)∧fs.lookup m=none ∧
  t σ H1 fun vs H2=>sp (x :: (vs ++ dvs)) H2 Q E
def tMake (C:Addr) (sp:Sp) (dvs:List V) (E:XK) (t:TA):TE:=fun σ H Q=>t σ H fun vs H1=>∀ x dx,H1 x=none->H1 dx=none->dx ≠ x →
  sp (.ref x :: (vs ++ dvs)) (upd (upd H1 dx (.own x)) x (.ins C dx [])) (fun v H2=>v = .non∧Q (.ref x) H2) E
def Binds (K:PySem.W.Frag) (fd:FuncData) (ps:List Str) (ds:List Value):Prop :=
  ∀ (s:Shared) (us:List Value),K.In s.heap->(us ++ ds).length=ps.length->BindsTo s fd ⟨us,[]⟩ (ps.zip (us ++ ds))
theorem Binds.all {K:PySem.W.Frag}{fd:FuncData}{ps:List Str} (h:∀ us:List Value,us.length=ps.length->bindArgs fd ⟨us,[]⟩=pure (ps.zip us)):Binds K fd ps []:=fun s us _ hl=>by
  rw [List.append_nil] at hl ⊢
  exact .of_eq (h us hl)
def Passes (CX:CXT) (X:Cx) (E:XK):Prop:=∀ (pins:List (Addr × Obj)) (σ:St) (H:Hp) (s:Shared) (e:Value) (s':Shared),Inv X pins σ H s->CX X.stack H s E e s'->X.xe e s'
section
variable {X:Cx}{CX:CXT}{k:Nat}{f C:Addr}{fd:FuncData}{ps:List Str}{sp:Sp}{dvs:List V}{ds:List Value}{E:XK}{x m:Str}{p pos apos:Pos}{e o:Expr}{es:List Expr}{ta:TE}{t:TA}
theorem run_fn {pins:List (Addr × Obj)}{σ:St}{H:Hp}{s:Shared}{Q:VK}{us:List Value}{vs:List V} (F:FnOk X.prog X.w X.K X.mg X.base CX k f fd ps sp) (hr:Room k X.A) (hb:Binds X.K fd ps ds) (hd:Vals dvs ds) (hx:Passes CX X E)
    (I:Inv X pins σ H s) (r:Vals vs us) (h:sp (vs ++ dvs) H Q E):wpAny (model X.prog X.w) X.A (call (.ref f) us) (EP X pins σ Q) X.xe s:=by
  have r2:Vals (vs ++ dvs) (us ++ ds):=r.append hd
  have hl:(us ++ ds).length=ps.length:=by rw [← r2.length]; exact F.len _ _ _ _ h
  refine wpAny_call (codeAny_mono (F.run X.A X.stack s H ⟨us,[]⟩ (us ++ ds) (vs ++ dvs) Q E hr I.env0 (hb s us I.kIn hl) r2 h) fun r s' hq=>?_)
  cases r with
  | error e=>exact hx pins σ H s e s' I hq
  | ok fl =>
    cases fl with
    | ret u=>exact I.after hq
    | next=>exact False.elim hq
    | brk=>exact False.elim hq
    | cont=>exact False.elim hq
theorem pe_call (F:FnOk X.prog X.w X.K X.mg X.base CX k f fd ps sp) (hr:Room k X.A) (hg:Gl X x) (hm:X.mg x=some (.ref f)) (hk:PySem.W.keepIn X.K (.ref f)=true) (hb:Binds X.K fd ps ds) (hd:Vals dvs ds) (hx:Passes CX X E)
    (ha:PA X (e :: es) t) (hdb:(x == ("__debug__" : Str))=false:=by decide) (he:starEach (e :: es) X.env=(false,eval e X.env) :: starEach es X.env:=by rfl) (hpl:(backTo pos (starEach es X.env)).any (·.1)=false:=by rfl) :
    PE X (.Call (.Name x p) (e :: es) [] pos) (tCall sp dvs E t):=by
  intro pins s σ H Q I h
  refine wpAny_Call_Name_kw (ld_glob I hg hm ?_ hdb)
  refine PySem.W.callWith_K (h₀:=X.base) I.ok.mod.kin hk (thn (ha pos pins s σ H _ I h) fun us s1 ⟨vs,H1,I1,r,q⟩=>⟨I1.kIn,?_⟩) he hpl
  exact run_fn F hr hb hd hx I1 r q
theorem pe_meth {pl:Sem Bool} (he:PE X o ta) (c:Cls X.K C) (hm:Meth X.K C m f) (F:FnOk X.prog X.w X.K X.mg X.base CX k f fd ps sp) (hr:Room k X.A) (hb:Binds X.K fd ps ds) (hd:Vals dvs ds) (hx:Passes CX X E) (ha:PA X (e :: es) t)
    (hst:starEach (e :: es) X.env=(false,eval e X.env) :: starEach es X.env:=by rfl) (hpl:(backTo pos (starEach es X.env)).any (·.1)=false:=by rfl)
    (ht:eval (.Call (.Attribute o m apos) (e :: es) [] pos) X.env=(do
      let ov ← eval o X.env
      standAt apos.atName
      let (f,first) ← holding [ov] (getMethod ov m pl)
      callWith pos f first (backTo pos (starEach (e :: es) X.env)) (backToKw pos (keywordEach [] X.env))):=by rfl) :
    PE X (.Call (.Attribute o m apos) (e :: es) [] pos) (tMeth C m sp dvs E ta t):=by
  intro pins s σ H Q I h
  refine PySem.W.methodCall_KW (pl:=pl) (thn (he pins s σ H _ I h) fun u s1 ⟨x,H1,I1,rx,a,dx,fs,ex,ea,l,q⟩=>?_) ht
  subst ex
  obtain rfl:u=Value.ref a:=rx
  refine getmeth_ok I1 ea c hm l ?_
  refine PySem.W.callWith_K (first:=[.ref a]) (h₀:=X.base) I.ok.mod.kin hm.kp (thn (ha pos pins s1 σ H1 _ I1 q) fun us s2 ⟨vs,H2,I2,r,q2⟩=>⟨I2.kIn,?_⟩) hst hpl
  exact run_fn (us:=.ref a :: us) (vs:=.ref a :: vs) F hr hb hd hx I2 (.cons rfl r) q2
theorem pe_meth0 {pl:Sem Bool} (he:PE X o ta) (c:Cls X.K C) (hm:Meth X.K C m f) (F:FnOk X.prog X.w X.K X.mg X.base CX k f fd ps sp) (hr:Room k X.A) (hb:Binds X.K fd ps ds) (hd:Vals dvs ds) (hx:Passes CX X E)
    (ht:eval (.Call (.Attribute o m apos) [] [] pos) X.env=(do
      let ov ← eval o X.env
      standAt apos.atName
      let (f,first) ← holding [ov] (getMethod ov m pl)
      callWith pos f first (backTo pos (starEach [] X.env)) (backToKw pos (keywordEach [] X.env))):=by rfl) :
    PE X (.Call (.Attribute o m apos) [] [] pos) (tMeth C m sp dvs E ta tNil):=by
  intro pins s σ H Q I h
  refine PySem.W.methodCall_KW (pl:=pl) (thn (he pins s σ H _ I h) fun u s1 ⟨x,H1,I1,rx,a,dx,fs,ex,ea,l,q⟩=>?_) ht
  subst ex
  obtain rfl:u=Value.ref a:=rx
  refine getmeth_ok I1 ea c hm l ?_
  exact PySem.W.callWith_K0 (first:=[.ref a]) I1.kIn hm.kp (run_fn (us:=[.ref a]) (vs:=[.ref a]) F hr hb hd hx I1 (.cons rfl .nil) q)
structure Mk (K:PySem.W.Frag) (C f:Addr):Prop where
  makes:PySem.W.makesIn K C=true
  init:PySem.W.findIn K (.ref C) "__init__" = some (some (.ref f))
  fn:PySem.W.isFn K (.ref f)=true
  kp:PySem.W.keepIn K (.ref C)=true
theorem run_make {pins:List (Addr × Obj)}{σ:St}{H:Hp}{s:Shared}{Q:VK}{us:List Value}{vs:List V} (M:Mk X.K C f) (F:FnOk X.prog X.w X.K X.mg X.base CX k f fd ps sp) (hr:Room (k + 1) X.A) (hb:Binds X.K fd ps ds) (hd:Vals dvs ds)
    (hx:Passes CX X E) (I:Inv X pins σ H s) (r:Vals vs us)
    (h:∀ x dx,H x=none->H dx=none->dx ≠ x->sp (.ref x :: (vs ++ dvs)) (upd (upd H dx (.own x)) x (.ins C dx [])) (fun v H2=>v = .non∧Q (.ref x) H2) E) :
    wpAny (model X.prog X.w) X.A (call (.ref C) us) (EP X pins σ Q) X.xe s:=by
  have hq:=h (s.heap.objs.size + 1) s.heap.objs.size (I.hok.fresh (Nat.le_succ _)) (I.hok.fresh (Nat.le_refl _)) (Nat.ne_of_lt (Nat.lt_succ_self _))
  have I2:=Inv.made (C:=C) I
  have r2:Vals (V.ref (s.heap.objs.size + 1) :: (vs ++ dvs)) (Value.ref (s.heap.objs.size + 1) :: (us ++ ds)):=.cons rfl (r.append hd)
  have hl:(Value.ref (s.heap.objs.size + 1) :: us ++ ds).length=ps.length:=by
    have e:=r2.length
    rw [F.len _ _ _ _ hq] at e
    exact e.symm
  refine wpAny_call (make_map (f:=f) I.kIn M.makes M.init (beq_iff_eq.mp M.fn) (codeAny_mono (F.run _ X.stack _ _ ⟨Value.ref (s.heap.objs.size + 1) :: us,[]⟩ (Value.ref (s.heap.objs.size + 1) :: (us ++ ds)) _ _ E (hr.make C us [])
    (I2.env0.make C us []) (hb _ (Value.ref (s.heap.objs.size + 1) :: us) I2.kIn hl) r2 hq) fun r s' hq'=>?_))
  cases r with
  | error e=>exact hx pins σ _ _ e s' I2 hq'
  | ok fl =>
    cases fl with
    | ret u =>
      obtain ⟨v,H',I3,rv,ev,q3⟩:=I2.after hq'
      subst ev
      exact ⟨rv,⟨V.ref (s.heap.objs.size + 1),H',I3,rfl,q3⟩⟩
    | next=>exact False.elim hq'
    | brk=>exact False.elim hq'
    | cont=>exact False.elim hq'
theorem pe_make (M:Mk X.K C f) (F:FnOk X.prog X.w X.K X.mg X.base CX k f fd ps sp) (hr:Room (k + 1) X.A) (hg:Gl X x) (hm:X.mg x=some (.ref C)) (hb:Binds X.K fd ps ds) (hd:Vals dvs ds) (hx:Passes CX X E)
    (ha:PA X (e :: es) t) (hdb:(x == ("__debug__" : Str))=false:=by decide) (he:starEach (e :: es) X.env=(false,eval e X.env) :: starEach es X.env:=by rfl) (hpl:(backTo pos (starEach es X.env)).any (·.1)=false:=by rfl) :
    PE X (.Call (.Name x p) (e :: es) [] pos) (tMake C sp dvs E t):=by
  intro pins s σ H Q I h
  refine wpAny_Call_Name_kw (ld_glob I hg hm ?_ hdb)
  refine PySem.W.callWith_K (h₀:=X.base) I.ok.mod.kin M.kp (thn (ha pos pins s σ H _ I h) fun us s1 ⟨vs,H1,I1,r,q⟩=>⟨I1.kIn,?_⟩) he hpl
  exact run_make M F hr hb hd hx I1 r q
theorem pe_make0 (M:Mk X.K C f) (F:FnOk X.prog X.w X.K X.mg X.base CX k f fd ps sp) (hr:Room (k + 1) X.A) (hg:Gl X x) (hm:X.mg x=some (.ref C)) (hb:Binds X.K fd ps ds) (hd:Vals dvs ds) (hx:Passes CX X E)
    (hdb:(x == ("__debug__" : Str))=false:=by decide):PE X (.Call (.Name x p) [] [] pos) (tMake C sp dvs E tNil):=by
  intro pins s σ H Q I h
  refine wpAny_Call_Name_kw (ld_glob I hg hm ?_ hdb)
  exact PySem.W.callWith_K0 I.kIn M.kp (run_make (us:=[]) M F hr hb hd hx I .nil h)
end
section
variable {X:Cx}{CX:CXT}{k:Nat}{f C:Addr}{fd:FuncData}{ps ks:List Str}{sp:Sp}{E:XK}{x m:Str}{p pos apos kpos:Pos}{e o:Expr}{es:List Expr}{kws:List Keyword}{te ta:TE}{t tk:TA}{nm:Option Str}
variable {g:List Value->List Value->List Value}{gV:List V->List V->List V}
end
structure FnScope (N P:List Str) (sc:Scope):Prop where
  kind:sc.kind = .function
  co:sc.isCoroutine=false
  gen:sc.isGenerator=false
  nd:N.Nodup
  pre:N.take P.length=P
  par:∀ x ∈ P,sc.names.lookup x=some .local ∨ sc.names.lookup x=some .cell
  nofree:∀ y ∈ sc.names,y.2 ≠ .free
theorem bindL_out {kindOf:Str->Option NameKind}{x:Str}:∀ {binds:List (Str × Value)}{m:Str->Option Value},(∀ v,(x,v) ∉ binds)->bindL kindOf binds m x=m x
  | [],_,_=>rfl
  | (n,v) :: r,m,h=>by
    unfold bindL
    rw [bindL_out fun w hw=>h w (List.mem_cons_of_mem _ hw)]
    split
    · have:x ≠ n:=by rintro rfl; exact h v List.mem_cons_self
      simp [this]
    · rfl
theorem bindC_out {kindOf:Str->Option NameKind}{x:Str}:∀ {binds:List (Str × Value)}{m:Str->Option Value},(∀ v,(x,v) ∉ binds)->bindC kindOf binds m x=m x
  | [],_,_=>rfl
  | (n,v) :: r,m,h=>by
    unfold bindC
    rw [bindC_out fun w hw=>h w (List.mem_cons_of_mem _ hw)]
    split
    · rfl
    · have:x ≠ n:=by rintro rfl; exact h v List.mem_cons_self
      simp [this]
theorem bindL_get {kindOf:Str->Option NameKind}{x:Str}{v:Value}:∀ {P:List Str}{vs:List Value}{i:Nat}{m:Str->Option Value},P.Nodup->P[i]?=some x->vs[i]?=some v->kindOf x=some .local →
    bindL kindOf (P.zip vs) m x=some v
  | [],_,_,_,_,h,_,_=>by simp at h
  | _ :: _,[],_,_,_,_,h,_=>by simp at h
  | p :: P,w :: vs,0,m,nd,h1,h2,hk=>by
    simp at h1 h2; subst h1; subst h2
    show bindL kindOf ((p,w) :: P.zip vs) m p=_
    unfold bindL
    rw [bindL_out fun v hv=>(List.nodup_cons.mp nd).1 (List.of_mem_zip hv).1,if_pos hk]
    simp
  | p :: P,w :: vs,i + 1,m,nd,h1,h2,hk=>by
    show bindL kindOf ((p,w) :: P.zip vs) m x=_
    unfold bindL
    exact bindL_get (i:=i) (List.nodup_cons.mp nd).2 (by simpa using h1) (by simpa using h2) hk
theorem bindC_get {kindOf:Str->Option NameKind}{x:Str}{v:Value}:∀ {P:List Str}{vs:List Value}{i:Nat}{m:Str->Option Value},P.Nodup->P[i]?=some x->vs[i]?=some v->kindOf x ≠ some .local →
    bindC kindOf (P.zip vs) m x=some v
  | [],_,_,_,_,h,_,_=>by simp at h
  | _ :: _,[],_,_,_,_,h,_=>by simp at h
  | p :: P,w :: vs,0,m,nd,h1,h2,hk=>by
    simp at h1 h2; subst h1; subst h2
    show bindC kindOf ((p,w) :: P.zip vs) m p=_
    unfold bindC
    rw [bindC_out fun v hv=>(List.nodup_cons.mp nd).1 (List.of_mem_zip hv).1,if_neg hk]
    simp
  | p :: P,w :: vs,i + 1,m,nd,h1,h2,hk=>by
    show bindC kindOf ((p,w) :: P.zip vs) m x=_
    unfold bindC
    exact bindC_get (i:=i) (List.nodup_cons.mp nd).2 (by simpa using h1) (by simpa using h2) hk
def start (N:List Str) (vs:List V):St:=vs.map some ++ List.replicate (N.length - vs.length) none
def cxOf (CX:CXT) (P:Program) (w:World) (K:PySem.W.Frag) (mg:Str->Option Value) (base:Heap) (N:List Str) (qual:Str) (scope:Scope) (f:Addr) (cd:Value) (A:Around) (outer:List Env) (s:Shared) (H:Hp) (E:XK):Cx where
  prog:=P
  w:=w
  K:=K
  mg:=mg
  base:=base
  A:=A.deeper (envOfC qual scope s.heap.objs.size f cd)
  N:=N
  s_0:=s
  H_0:=H
  env:=envOfC qual scope s.heap.objs.size f cd
  outer:=outer
  stack:=envOfC qual scope s.heap.objs.size f cd :: outer
  ex:=[]
  calm:=true
  fn:=fun _=>true
  pn:=[]
  xe:=fun e s'=>wpAny (model P w) (A.deeper (envOfC qual scope s.heap.objs.size f cd)) (leaving (envOfC qual scope s.heap.objs.size f cd) e) (fun _ s''=>CX outer H s E e s'') (fun e' s''=>CX outer H s E e' s'') s'
theorem cell_has {sc:Scope}{n:Nat}{x:Str} (h:sc.names.lookup x=some .cell):∃ c,(cellsFrom n sc.names []).lookup x=some c:=by
  have q:=PySem.W.cellsFrom_some sc.names n [] (.inl h)
  exact Option.isSome_iff_exists.mp q
theorem inv_start {CX:CXT}{P:Program}{w:World}{K:PySem.W.Frag}{mg:Str->Option Value}{base:Heap}{N ps:List Str}{qual:Str}{scope:Scope}{f:Addr}{cd:Value}{A:Around}{outer:List Env}{s s1:Shared}{H:Hp}{E:XK}{us:List Value}{vs:List V}
    (S:FnScope N ps scope) (hd:A.handled=none) (e0:Env0 P w K mg base A outer s H) (hl:vs.length=ps.length) (r:Vals vs us)
    (x:InCallC s s.heap.objs.size (bindL (envOfC qual scope s.heap.objs.size f cd).kindOf (ps.zip us) fun _=>none) (cellsFrom (s.heap.objs.size + 1) scope.names []) (bindC (envOfC qual scope s.heap.objs.size f cd).kindOf (ps.zip us) fun _=>none) s1) :
    Inv (cxOf CX P w K mg base N qual scope f cd A outer s H E) [] (start N vs) H s1:=by
  have hpl:ps.length ≤ N.length:=by have:=congrArg List.length S.pre; rw [List.length_take] at this; omega
  obtain ⟨h1,tk,rfl,hk⟩:=x.done
  have noA:∀ b:Addr,b ∉ (cxOf CX P w K mg base N qual scope f cd A outer s H E).ex:=fun b z=>absurd (show b ∈ ([]:List Addr) from z) (by simp)
  refine ⟨⟨e0.mod,S.kind,rfl,rfl,Nat.le_refl _,fun y z c h1 h2=>?_,fun y hy=>?_,fun y c _ h=>?_,fun _=>hd,Around.frames_deeper e0.frames,.inr ⟨rfl,rfl⟩,fun b z=>absurd z (noA b),e0.bs,e0.bsz,fun b _ _=>noA b,fun b z=>absurd z (noA b),e0.funs,e0.frf⟩,
    rfl,e0.bare,Un.kept hk,⟨_,x.toInCall.ns,fun i y v h1 h2 h3=>?_⟩,fun y c h=>⟨_,x.cell y c h⟩,e0.hok.fresh (Nat.le_refl _),fun y c h=>?_,fun p hp=>absurd (show p ∈ ([]:List (Addr × Obj)) from hp) (by simp),e0.hok.kept hk,?_⟩
  · exact name_of_addr x.apart (PySem.mem_of_lookup h1) (PySem.mem_of_lookup h2)
  · have hy:scope.names.lookup y=some .cell ∨ scope.names.lookup y=some .free:=hy
    rcases hy with hy | hy
    · exact cell_has hy
    · exact absurd rfl (S.nofree _ (PySem.mem_of_lookup hy))
  · exact Nat.le_of_lt (x.above y c (PySem.mem_of_lookup h))
  · have hi:i < vs.length:=by
      unfold start at h2
      by_cases hi:i < vs.length
      · exact hi
      · rw [List.getElem?_append_right (by simpa using hi)] at h2
        rw [List.getElem?_replicate] at h2
        split at h2 <;> cases h2
    have ha:vs[i]?=some v:=by
      unfold start at h2
      rw [List.getElem?_append_left (by simpa using hi),List.getElem?_map] at h2
      cases e:vs[i]? with
      | none=>rw [e] at h2; cases h2
      | some a=>rw [e] at h2; cases h2; rfl
    obtain ⟨u,hu,rv⟩:=r.get ha
    have hp:ps[i]?=some y:=by
      rw [← S.pre,List.getElem?_take_of_lt (by omega)]; exact h1
    have ndP:ps.Nodup:=by rw [← S.pre]; exact S.nd.sublist (List.take_sublist _ _)
    refine ⟨u,rv,?_⟩
    rcases S.par y (List.mem_of_getElem? hp) with k | k
    · exact .inl ⟨k,bindL_get ndP hp hu k⟩
    · obtain ⟨c,e⟩:=cell_has (n:=s.heap.objs.size + 1) k
      refine .inr ⟨.inl k,c,e,?_⟩
      have q:=x.cell y c e
      rw [bindC_get ndP hp hu (by show scope.names.lookup y ≠ _; rw [k]; decide)] at q
      exact q
  · exact e0.hok.fresh (Nat.le_of_lt (x.above y c (PySem.mem_of_lookup h)))
  · unfold start
    show _=N.length
    rw [List.length_append,List.length_map,List.length_replicate]
    omega
theorem fn_of {CX:CXT}{P:Program}{w:World}{K:PySem.W.Frag}{mg:Str->Option Value}{base:Heap}{k:Nat}{f:Addr}{name qual:Str}{params:Arguments}{body:List Stmt}{scope:Scope}{dV kV doc pm cdv ct oc:Value}{an od:Option Addr}
    {osl:Array (Option Value)}{N ps:List Str}{sp:Sp} (lk:K.lookup f=some ⟨oc,od,.func (PySem.W.fnOf name qual params body scope dV kV doc pm an cdv ct),osl⟩) (hcd:PySem.W.codeIn K cdv qual=true) (S:FnScope N ps scope)
    (len:∀ vs H Q E,sp vs H Q E->vs.length=ps.length)
    (hbody:∀ (A:Around) (outer:List Env) (s:Shared) (H:Hp) (vs:List V) (Q:VK) (E:XK),Room k (A.deeper (envOfC qual scope s.heap.objs.size f cdv))->sp vs H Q E →
      ∃ t,PSs (cxOf CX P w K mg base N qual scope f cdv A outer s H E) body t∧t { nx:=fun _ H'=>Q .non H',rt:=Q } (start N vs) H) :
    FnOk P w K mg base CX (k + 1) f (PySem.W.fnOf name qual params body scope dV kV doc pm an cdv ct) ps sp:=by
  refine ⟨len,fun A outer s H args us vs Q E hr e0 hb r hsp=>?_⟩
  have hl:=len _ _ _ _ hsp
  have KX:K.In s.heap:=e0.mod.kin.keeps fun b o e=>(e0.bs b o e).1
  have lim:s.heap.NoLimit:=e0.mod.nolimit.keeps fun b o e=>(e0.bs b o e).1
  have hkind:∀ y ∈ ps.zip us,scope.names.lookup y.1=some .local ∨ (scope.names.lookup y.1=some .cell∧((cellsFrom (s.heap.objs.size + 1) scope.names []).lookup y.1).isSome=true):=fun ⟨n,v⟩ hy=>by
    rcases S.par n (List.of_mem_zip hy).1 with q | q
    · exact .inl q
    · exact .inr ⟨q,PySem.W.cellsFrom_some _ _ _ (.inl q)⟩
  refine codeAny_call_function hr.depth (KX _ _ lk) rfl S.co S.gen rfl (PySem.W.codeRec_of KX hcd) (hb _ _ _ _ ?_)
  refine wpAny_newFunctionEnv_cells S.kind hkind fun env he s1 x=>?_
  subst he
  refine ⟨lim.keeps x.toInCall.keep,codeAny_func ?_⟩
  obtain ⟨t,ht,hq⟩:=hbody A outer s H vs Q E (hr.deeper _) hsp
  have I:Inv (cxOf CX P w K mg base N qual scope f cdv A outer s H E) [] (start N vs) H s1:=inv_start S hr.hd e0 hl r x
  refine wpAny_mono (ht [] s1 (start N vs) H _ I hq) (fun fl s' hs=>?_) fun e s' hs=>hs
  have fin:∀ {σ':St}{H':Hp}{v:V}{u:Value},Inv (cxOf CX P w K mg base N qual scope f cdv A outer s H E) [] σ' H' s'->RelV v u->Q v H'->CE outer P w H s Q u s' :=
    fun {σ' H' v u} J rv q=>⟨v,H',J.os,J.bare,J.base,J.hok,rv,q⟩
  cases fl with
  | ret u =>
    obtain ⟨v,σ',H',J,rv,q⟩:=hs
    exact fin J rv q
  | next =>
    obtain ⟨σ',H',J,q⟩:=hs
    exact fin (v:=V.non) (u:=Value.none) J rfl q
  | brk =>
    obtain ⟨_,_,_,q⟩:=hs
    exact False.elim q
  | cont =>
    obtain ⟨_,_,_,q⟩:=hs
    exact False.elim q
end L2
namespace L2
open PySem PySem.Spec PyProof.Rows
section
variable {X:Cx}{x:Str}{p pos:Pos}{e:Expr}{es:List Expr}{t:TA}{id T:String}{r:List V->Hp->VK->Prop}
def tCB (r:List V->Hp->VK->Prop) (t:TA):TE:=fun σ H Q=>t σ H fun vs H1=>r vs H1 Q
theorem pe_callB (hc:CallR X (.builtin id) r) (hg:Gl X x) (hm:X.mg x=none) (hv:bootBuiltins x=some (.builtin id)) (ha:PA X (e :: es) t) (hn:x ≠ "__name__" := by decide) (hdb:(x == ("__debug__" : Str))=false:=by decide)
    (he:starEach (e :: es) X.env=(false,eval e X.env) :: starEach es X.env:=by rfl) (hpl:(backTo pos (starEach es X.env)).any (·.1)=false:=by rfl):PE X (.Call (.Name x p) (e :: es) [] pos) (tCB r t):=by
  intro pins s σ H Q I h
  refine wpAny_Call_Name_kw (ld_blt I hg hm hv ?_ hn hdb)
  exact PyProof.Rows.callWith_builtin1 (thn (ha pos pins s σ H _ I h) fun us s1 ⟨vs,H1,I1,r1,q1⟩=>hc pins s1 σ H1 vs us Q I1 r1 q1) he hpl
theorem pe_callTy (hc:CallR X (.type T) r) (hg:Gl X x) (hm:X.mg x=none) (hv:bootBuiltins x=some (.type T)) (ha:PA X (e :: es) t) (hn:x ≠ "__name__" := by decide) (hdb:(x == ("__debug__" : Str))=false:=by decide)
    (he:starEach (e :: es) X.env=(false,eval e X.env) :: starEach es X.env:=by rfl) (hpl:(backTo pos (starEach es X.env)).any (·.1)=false:=by rfl):PE X (.Call (.Name x p) (e :: es) [] pos) (tCB r t):=by
  intro pins s σ H Q I h
  refine wpAny_Call_Name_kw (ld_blt I hg hm hv ?_ hn hdb)
  exact PyProof.Rows.callWith_type1 (thn (ha pos pins s σ H _ I h) fun us s1 ⟨vs,H1,I1,r1,q1⟩=>hc pins s1 σ H1 vs us Q I1 r1 q1) he hpl
end
end L2
namespace HT
open PySem PyProof.Rows
section
open PySem.SeqAt
open PySem.AutoSeq1 (wpAny_loadPart')
open PySem.MeetsSeq PySem.MeetsSeq2 PySem.MeetsSeq3
end
section
variable {prog:Program}{w:World}{A:Around}{E:Value->Shared->Prop}{s:Shared}
def sIx (n d:Nat):Option Int->Nat
  | none=>d
  | some v=>if v < 0 then (v + (n:Int)).toNat else min v.toNat n
end
end HT
namespace L2
open PySem PySem.Spec PyProof.Rows
abbrev TO:=St->Hp->(Option Int->Hp->Prop)->Prop
def PO (X:Cx) (e:Option Expr) (t:TO):Prop :=
  ∀ (pins:List (Addr × Obj)) (s:Shared) (σ:St) (H:Hp) (Q:Option Int->Hp->Prop),Inv X pins σ H s->t σ H Q →
    wpAny (model X.prog X.w) X.A (evalPart e X.env) (fun u s'=>∃ o H',Inv X pins σ H' s'∧IsPart u o∧Q o H') X.xe s
def tNoPart : TO:=fun _ H Q=>Q none H
def tPart (t:TE):TO:=fun σ H Q=>t σ H fun x H1=>∃ i,x = .int i∧Q (some i) H1
section
variable {X:Cx}{e:Expr}{te:TE}{lo hi:Option Expr}{tl th:TO}{pos p2:Pos}
theorem po_none : PO X none tNoPart:=by
  intro pins s σ H Q I h
  rw [evalPart_none]
  exact wpAny_pure ⟨none,H,I,.none,h⟩
theorem po_some (h:PE X e te):PO X (some e) (tPart te):=by
  intro pins s σ H Q I hw
  rw [evalPart_some]
  refine thn (h pins s σ H _ I hw) fun u s1 ⟨x,H1,I1,r1,q1⟩=>?_
  obtain ⟨i,rfl,q⟩:=q1
  obtain ⟨t,rfl⟩:=r1
  exact ⟨some i,H1,I1,.int i t,q⟩
def SlR (X:Cx) (r:V->Option Int->Option Int->Hp->VK->Prop):Prop :=
  ∀ (pins:List (Addr × Obj)) (s:Shared) (σ:St) (H:Hp) (x:V) (v vl vu:Value) (lo hi:Option Int) (sl:Addr) (Q:VK),Inv X pins σ H s->RelV x v->s.heap.IsSliceOf sl vl vu .none->IsPart vl lo->IsPart vu hi->r x lo hi H Q →
    ∃ T id,typeLookup (.type T) "__getitem__" = pure (some (.builtin id))∧s.TypeIs v T∧wpAny (model X.prog X.w) X.A (getItem v (.ref sl)) (EP X pins σ Q) X.xe s
def tSl (r:V->Option Int->Option Int->Hp->VK->Prop) (te:TE) (tl th:TO):TE:=fun σ H Q=>te σ H fun x H1=>tl σ H1 fun l H2=>th σ H2 fun u H3=>r x l u H3 Q
theorem pe_slice {r:V->Option Int->Option Int->Hp->VK->Prop} (hr:SlR X r) (he:PE X e te) (hl:PO X lo tl) (hu:PO X hi th):PE X (.Subscript e (.Slice lo hi none p2) pos) (tSl r te tl th):=by
  intro pins s σ H Q I h
  refine Subscript_ (thn (he pins s σ H _ I h) fun v s1 ⟨x,H1,I1,r1,q1⟩=>?_)
  refine wpAny_Slice (thn (hl pins s1 σ H1 _ I1 q1) fun vl s2 ⟨l,H2,I2,pl,q2⟩=>thn (hu pins s2 σ H2 _ I2 q2) fun vu s3 ⟨u,H3,I3,pu,q3⟩=>?_)
  rw [evalPart_none]
  refine wpAny_pure ?_
  have I4:Inv X pins σ H3 { s3 with heap:=s3.heap.push { cls:=.type "slice",data:=.fields #[vl,vu,.none] } }:=I3.kept (t':=s3.toks) fun b ob q=>Heap.get?_push_of_some _ q
  obtain ⟨T,id,hT,ht,hg⟩:=hr pins { s3 with heap:=s3.heap.push { cls:=.type "slice",data:=.fields #[vl,vu,.none] } } σ H3 x v vl vu l u s3.heap.objs.size Q I4 r1 (Heap.IsSliceOf.new ..) pl pu q3
  show wpAny (model X.prog X.w) X.A (subscriptTail e (.Slice lo hi none p2) v (.ref s3.heap.objs.size)) (EP X pins σ Q) X.xe { s3 with heap:=s3.heap.push { cls:=.type "slice",data:=.fields #[vl,vu,.none] } }
  exact tail_any (ops:=[.ref s3.heap.objs.size,v]) ht hT hg (by with_unfolding_all rfl)
def cutV (xs:List V) (lo hi:Option Int):List V:=(xs.drop (HT.sIx xs.length 0 lo)).take (HT.sIx xs.length xs.length hi - HT.sIx xs.length 0 lo)
theorem cutV_length (xs:List V) (lo hi:Option Int):(cutV xs lo hi).length ≤ xs.length:=by
  unfold cutV
  rw [List.length_take,List.length_drop]
  omega
end
end L2
namespace L2
open PySem PySem.Spec PyProof.Rows
def ixN (n:Nat) (i:Int):Option Nat:=if 0 ≤ i then (if i < n then some i.toNat else none) else if -(n:Int) ≤ i then some (i + n).toNat else none
def atI {α:Type} (xs:List α) (i:Int):Option α:=(ixN xs.length i).bind fun j=>xs[j]?
theorem ixN_seq {n:Nat}{i:Int}{j:Nat} (h:ixN n i=some j):seqIndex? i n=some j∧j < n∧-(n:Int) ≤ i∧i < n:=by
  unfold ixN at h
  by_cases h0:0 ≤ i
  · rw [if_pos h0] at h
    by_cases h1:i < n
    · rw [if_pos h1] at h
      have e:i.toNat=j:=Option.some.inj h
      exact ⟨by rw [seqIndex_of h0 h1,e],by omega,by omega,h1⟩
    · rw [if_neg h1] at h; cases h
  · rw [if_neg h0] at h
    by_cases h1:-(n:Int) ≤ i
    · rw [if_pos h1] at h
      have e:(i + n).toNat=j:=Option.some.inj h
      exact ⟨by rw [seqIndex_neg (by omega) h1,e],by omega,h1,by omega⟩
    · rw [if_neg h1] at h; cases h
theorem atI_get {α:Type}{xs:List α}{i:Int}{v:α} (h:atI xs i=some v):∃ j,seqIndex? i xs.length=some j∧xs[j]?=some v∧j < xs.length∧-(xs.length:Int) ≤ i∧i < xs.length:=by
  unfold atI at h
  cases e:ixN xs.length i with
  | none=>rw [e] at h; cases h
  | some j =>
    rw [e] at h
    obtain ⟨h1,h2,h3,h4⟩:=ixN_seq e
    exact ⟨j,h1,h,h2,h3,h4⟩
theorem atI_nat {α:Type}{xs:List α}{j:Nat}{v:α} (h:xs[j]?=some v):atI xs (j:Int)=some v:=by
  have hj:j < xs.length:=(List.getElem?_eq_some_iff.mp h).1
  have e:ixN xs.length (j:Int)=some j:=by
    unfold ixN
    rw [if_pos (by omega),if_pos (by omega)]; simp
  unfold atI; rw [e]; exact h
theorem atI_last {α:Type} (xs:List α) (v:α):atI (xs ++ [v]) (-1)=some v:=by
  have hl:(xs ++ [v]).length=xs.length + 1:=by simp
  have e:ixN (xs ++ [v]).length (-1)=some xs.length:=by
    unfold ixN
    rw [hl,if_neg (by decide),if_pos (by omega)]
    congr 1
    omega
  unfold atI
  rw [e]
  show (xs ++ [v])[xs.length]?=some v
  simp
def PlainIx (b:Expr):Prop:=∀ o i,subscripted b false o i=operate [o,i] (getItem o i)
def IxR (X:Cx) (r:R2):Prop :=
  ∀ (value slice:Expr) (pins:List (Addr × Obj)) (s:Shared) (σ:St) (H:Hp) (x y:V) (v u:Value) (Q:VK),Inv X pins σ H s->RelV x v->RelV y u->r x y H Q →
    subscripted slice false v u=operate [v,u] (getItem v u)->wpAny (model X.prog X.w) X.A (subscriptTail value slice v u) (EP X pins σ Q) X.xe s
def MtR (X:Cx) (id:String) (r:V->List V->Hp->VK->Prop):Prop :=
  ∀ (pins:List (Addr × Obj)) (s:Shared) (σ:St) (H:Hp) (x:V) (xs:List V) (v:Value) (us:List Value) (Q:VK),Inv X pins σ H s->RelV x v->Vals xs us->r x xs H Q →
    wpAny (model X.prog X.w) X.A (call (.builtin id) (v :: us)) (EP X pins σ Q) X.xe s
section
variable {X:Cx}{a b:Expr}{ta tb:TE}{pos:Pos}
theorem pe_ix {r:R2} (hr:IxR X r) (ha:PE X a ta) (hb:PE X b tb) (hs:PlainIx b):PE X (.Subscript a b pos) (tOp r ta tb):=by
  intro pins s σ H Q I h
  exact Subscript_ (binT ha hb I h fun v u s2 x y H2 I2 rx ry q=>hr a b pins s2 σ H2 x y v u Q I2 rx ry q (hs _ _))
def rIxL (K:PySem.W.Frag):R2:=fun x y H Q=>∃ p xs i v,x = .ref p∧y = .int i∧SqL K H p xs∧atI xs i=some v∧Q v H
def rIxT (K:PySem.W.Frag):R2:=fun x y H Q=>∃ p xs i v,x = .ref p∧y = .int i∧SqT K H p xs∧atI xs i=some v∧Q v H
theorem ix_list : IxR X (rIxL X.K):=by
  intro value slice pins s σ H x y v u Q I rx ry h hs
  obtain ⟨p,xs,i,z,rfl,rfl,hq,he,q⟩:=h
  cases rx
  obtain ⟨t,rfl⟩:=ry
  obtain ⟨its,r,pl,hz⟩:=I.list hq
  obtain ⟨j,h1,h2,h3,h4,h5⟩:=atI_get he
  obtain ⟨w,ew,rw'⟩:=r.get h2
  have hl:=r.length
  have hn:=line63
  have fin:EP X pins σ Q w s:=⟨z,H,I,rw',q⟩
  by_cases h0:0 ≤ i
  · have hj:i.toNat=j:=by
      rw [seqIndex_of h0 h5] at h1
      exact Option.some.inj h1
    exact item_listR pl.isList h0 (by omega) (by rw [hj]; simpa using ew) fin hs
  · have hj:(i + (its.toArray.size:Int)).toNat=j:=by
      rw [seqIndex_neg (by omega) h4] at h1
      rw [List.size_toArray,← hl]
      exact Option.some.inj h1
    exact subscriptTail_builtinR (x:=w) pl.isList.typeIs slot_list_getitem.lookup
      (wpAny_getItem_list_neg (Q:=fun r s'=>r=w∧EP X pins σ Q r s') pl.isList (by omega) (by rw [List.size_toArray] <;> omega) (by omega) (by rw [hj]; simpa using ew) ⟨rfl,fin⟩) hs
theorem ix_tup : IxR X (rIxT X.K):=by
  intro value slice pins s σ H x y v u Q I rx ry h hs
  obtain ⟨p,xs,i,z,rfl,rfl,hq,he,q⟩:=h
  cases rx
  obtain ⟨t,rfl⟩:=ry
  obtain ⟨its,r,pl,hz⟩:=I.tuple hq
  obtain ⟨j,h1,h2,h3,h4,h5⟩:=atI_get he
  obtain ⟨w,ew,rw'⟩:=r.get h2
  have hl:=r.length
  have hn:=line63
  have fin:EP X pins σ Q w s:=⟨z,H,I,rw',q⟩
  exact subscriptTail_builtinR (x:=w) pl.typeIs slot_tuple_getitem.lookup
    (getItem_tuple (j:=j) (Q:=fun r s'=>r=w∧EP X pins σ Q r s') pl (by omega) (by omega) (by rw [List.size_toArray,← hl]; exact h1) (by simpa using ew) ⟨rfl,fin⟩) hs
theorem slice_bounds (lo hi:Option Int) (n:Nat):(sliceBounds lo hi none n).1=((HT.sIx n 0 lo:Nat):Int)∧(sliceBounds lo hi none n).2.1=((HT.sIx n n hi:Nat):Int)∧(sliceBounds lo hi none n).2.2=1:=by
  refine ⟨?_,?_,rfl⟩
  · cases lo with
    | none=>simp [sliceBounds,HT.sIx]
    | some i =>
      simp only [sliceBounds,HT.sIx,Option.getD_none,show (1:Int) > 0 by decide,if_true]
      by_cases h:i < 0
      · simp only [h,if_true] <;> omega
      · simp only [h,if_false] <;> omega
  · cases hi with
    | none=>simp [sliceBounds,HT.sIx]
    | some i =>
      simp only [sliceBounds,HT.sIx,Option.getD_none,show (1:Int) > 0 by decide,if_true]
      by_cases h:i < 0
      · simp only [h,if_true] <;> omega
      · simp only [h,if_false] <;> omega
theorem slicePick_cut (its:List Value) (lo hi:Option Int):slicePick its.toArray lo hi none=((its.drop (HT.sIx its.length 0 lo)).take (HT.sIx its.length its.length hi - HT.sIx its.length 0 lo)).toArray:=by
  obtain ⟨h1,h2,h3⟩:=slice_bounds lo hi its.toArray.size
  unfold slicePick
  rw [h1,h2,h3]
  simp only [sliceRange_one,pick_run,List.size_toArray] <;> rfl
def rSlL (K:PySem.W.Frag):V->Option Int->Option Int->Hp->VK->Prop:=fun x lo hi H Q=>∃ a xs,x = .ref a∧SqL K H a xs∧∀ p,H p=none->Q (.ref p) (upd H p (.lst (cutV xs lo hi)))
theorem sl_list : SlR X (rSlL X.K):=by
  intro pins s σ H x v vl vu lo hi sl Q I rx hs pl pu h
  obtain ⟨a,xs,rfl,hx,q⟩:=h
  cases rx
  obtain ⟨its,r,ht,hz⟩:=I.list hx
  have hlen:=r.length
  refine ⟨"list",_,slot_list_getitem.lookup,ht.isList.typeIs,?_⟩
  refine wpAny_getItem_list_slice ht.isList hs pl pu .none (by simp) ?_ (by rw [List.size_toArray] <;> omega)
  rw [slicePick_cut,← hlen]
  refine ⟨.ref s.heap.objs.size,_,I.laid (t':=s.toks) (o:=.lst (cutV xs lo hi)) (fun b ob q=>Heap.get?_push_of_some _ q) (Nat.le_refl _) ?_,rfl,q _ (I.hok.fresh (Nat.le_refl _))⟩
  exact ⟨Nat.le_trans (cutV_length xs lo hi) hz,_,0,(r.drop (HT.sIx xs.length 0 lo)).take (HT.sIx xs.length xs.length hi - HT.sIx xs.length 0 lo),Heap.get?_push_size _ rfl⟩
def flatV : V->Bool
  | .non=>true
  | .bl _=>true
  | .int _=>true
  | .str _=>true
  | _=>false
def eqV : V->V->Bool
  | .non,.non=>true
  | .bl a,.bl b=>a == b
  | .bl a,.int b=>(if a then 1 else 0) == b
  | .int a,.bl b=>a == (if b then 1 else 0)
  | .int a,.int b=>a == b
  | .str a,.str b=>a == b
  | _,_=>false
theorem eqAt_V {A:Around}{s:Shared}{y x:V}{u v:Value} (ry:RelV y u) (rx:RelV x v) (fy:flatV y=true) (fx:flatV x=true):SeqAt.EqAt A s u v (eqV y x):=by
  cases y with
  | non =>
    cases ry
    cases x with
    | non=>cases rx; exact SeqAt.EqAt.same _
    | bl b=>cases rx; exact SeqAt.EqAt.none_bool b
    | int b=>obtain ⟨t,rfl⟩:=rx; exact SeqAt.EqAt.none_int b t
    | str b=>obtain ⟨t,rfl⟩:=rx; exact SeqAt.EqAt.none_str b t
    | _=>exact absurd (show false=true from fx) Bool.false_ne_true
  | bl a =>
    cases ry
    cases x with
    | non=>cases rx; exact SeqAt.EqAt.bool_none a
    | bl b=>cases rx; exact SeqAt.EqAt.bool_bool a b
    | int b=>obtain ⟨t,rfl⟩:=rx; exact SeqAt.EqAt.bool_int a b t
    | str b=>obtain ⟨t,rfl⟩:=rx; exact SeqAt.EqAt.bool_str a b t
    | _=>exact absurd (show false=true from fx) Bool.false_ne_true
  | int a =>
    obtain ⟨t',rfl⟩:=ry
    cases x with
    | non=>cases rx; exact SeqAt.EqAt.int_none a t'
    | bl b=>cases rx; exact SeqAt.EqAt.int_bool a t' b
    | int b=>obtain ⟨t,rfl⟩:=rx; exact SeqAt.EqAt.int_int a t' b t
    | str b=>obtain ⟨t,rfl⟩:=rx; exact SeqAt.EqAt.int_str a t' b t
    | _=>exact absurd (show false=true from fx) Bool.false_ne_true
  | str a =>
    obtain ⟨t',rfl⟩:=ry
    cases x with
    | non=>cases rx; exact SeqAt.EqAt.str_none a t'
    | bl b=>cases rx; exact SeqAt.EqAt.str_bool a t' b
    | int b=>obtain ⟨t,rfl⟩:=rx; exact SeqAt.EqAt.str_int a t' b t
    | str b=>obtain ⟨t,rfl⟩:=rx; exact SeqAt.EqAt.str_str a t' b t
    | _=>exact absurd (show false=true from fx) Bool.false_ne_true
  | _=>exact absurd (show false=true from fy) Bool.false_ne_true
def eqU (x:V) (u:Value):Bool:=match u with
  | .none=>eqV .non x
  | .bool b=>eqV (.bl b) x
  | .int i _=>eqV (.int i) x
  | .str z _=>eqV (.str z) x
  | _=>false
theorem eqU_of {x y:V}{u:Value} (r:RelV y u) (f:flatV y=true):eqU x u=eqV y x:=by
  cases y with
  | non=>cases r; rfl
  | bl b=>cases r; rfl
  | int i=>obtain ⟨t,rfl⟩:=r; rfl
  | str z=>obtain ⟨t,rfl⟩:=r; rfl
  | _=>exact absurd (show false=true from f) Bool.false_ne_true
theorem any_eqU {x:V}:∀ {xs:List V}{us:List Value},Vals xs us->xs.all flatV=true->us.any (eqU x)=xs.any fun y=>eqV y x
  | _,_,.nil,_=>rfl
  | y :: xs,u :: us,.cons r t,f=>by
    rw [List.all_cons,Bool.and_eq_true] at f
    rw [List.any_cons,List.any_cons,eqU_of r f.1,any_eqU t f.2]
theorem mem_eqAt {A:Around}{s:Shared}{x:V}{v:Value} (rx:RelV x v) (fx:flatV x=true):∀ {xs:List V}{us:List Value},Vals xs us->xs.all flatV=true->∀ u ∈ us,SeqAt.EqAt A s u v (eqU x u)
  | _,_,.nil,_=>fun u hu=>by cases hu
  | y :: xs,u :: us,.cons r t,f=>fun u' hu=>by
    rw [List.all_cons,Bool.and_eq_true] at f
    rcases List.mem_cons.mp hu with rfl | hu
    · rw [eqU_of r f.1]; exact eqAt_V r rx f.1 fx
    · exact mem_eqAt rx fx t f.2 u' hu
def inV (x:V) (xs:List V):Bool:=xs.any fun y=>eqV y x
def rIn (K:PySem.W.Frag) (neg:Bool):R2:=fun x y H Q=>∃ p xs,y = .ref p∧(SqL K H p xs ∨ SqT K H p xs)∧flatV x=true∧xs.all flatV=true∧Q (.bl (if neg then !inV x xs else inV x xs)) H
theorem op_in_seq : OpR X (compareOp .In) (rIn X.K false):=by
  intro pins s σ H x y v u Q I rx ry h
  obtain ⟨p,xs,rfl,hq,fx,fs,q⟩:=h
  cases ry
  rcases hq with hq | hq
  · obtain ⟨its,r,pl,hz⟩:=I.list hq
    refine SeqAt.in_listAt (eqU x) pl.isList (fun w hw=>mem_eqAt rx fx r fs w (by simpa using hw)) ⟨.bl _,H,I,rfl,?_⟩
    rw [show its.toArray.any (eqU x)=its.any (eqU x) by simp,any_eqU r fs]
    exact q
  · obtain ⟨its,r,pl,hz⟩:=I.tuple hq
    refine SeqAt.in_tupleAt (eqU x) pl (fun w hw=>mem_eqAt rx fx r fs w (by simpa using hw)) ⟨.bl _,H,I,rfl,?_⟩
    rw [show its.toArray.any (eqU x)=its.any (eqU x) by simp,any_eqU r fs]
    exact q
theorem call_len_seq : CallR X (.builtin "len") (fun xs H Q=>∃ p ys,xs=[.ref p]∧(SqL X.K H p ys ∨ SqT X.K H p ys)∧Q (.int ys.length) H):=by
  intro pins s σ H xs us Q I r h
  obtain ⟨p,ys,rfl,hq,q⟩:=h
  obtain ⟨u,rfl,rx⟩:=vals1 r
  cases rx
  have hn:=line63
  rcases hq with hq | hq
  · obtain ⟨its,r',pl,hz⟩:=I.list hq
    have hlen:=r'.length
    exact Calls.call_len_list pl.isList (by simp only [List.size_toArray] <;> omega) ⟨.int ys.length,H,I.tok _,⟨s.toks + 1,by rw [List.size_toArray,hlen]⟩,q⟩
  · obtain ⟨its,r',pl,hz⟩:=I.tuple hq
    have hlen:=r'.length
    exact len_tuple pl (by simp only [List.size_toArray] <;> omega) ⟨.int ys.length,H,I.tok _,⟨s.toks + 1,by rw [List.size_toArray,hlen]⟩,q⟩
theorem call_list_of : CallR X (.type "list") (fun xs H Q=>∃ p ys,xs=[.ref p]∧(SqL X.K H p ys ∨ SqT X.K H p ys)∧∀ l,H l=none->Q (.ref l) (upd H l (.lst ys))):=by
  intro pins s σ H xs us Q I r h
  obtain ⟨p,ys,rfl,hq,q⟩:=h
  obtain ⟨u,rfl,rx⟩:=vals1 r
  cases rx
  have fin:∀ (its:List Value),Vals ys its->ys.length ≤ sizeLine->∀ (h':Heap) (c':Nat),(∀ b o',s.heap.get? b=some o'->h'.get? b=some o') →
      h'.get? s.heap.objs.size=some { cls:=.type "list",dict:=none,data:=.seq its.toArray c',slots:=#[] }->EP X pins σ Q (.ref s.heap.objs.size) { s with heap:=h' }:=fun its r' hz h' c' kp e =>
    ⟨.ref s.heap.objs.size,_,I.laid (t':=s.toks) kp (Nat.le_refl _) (show ObjOk X.prog X.w _ h' _ (.lst ys) from ⟨hz,its,c',r',e⟩),rfl,q _ (I.hok.fresh (Nat.le_refl _))⟩
  rcases hq with hq | hq
  · obtain ⟨its,r',pl,hz⟩:=I.list hq
    have hlen:=r'.length
    obtain ⟨o,ho,hc,n,hd⟩:=pl.isList
    exact call_list_seq p (.inl rfl) ho hc hd (fun h' c' kp e=>fin its r' hz h' c' kp e) (by simp only [List.size_toArray] <;> omega)
  · obtain ⟨its,r',pl,hz⟩:=I.tuple hq
    have hlen:=r'.length
    obtain ⟨o,ho,hc,n,hd⟩:=pl
    exact call_list_seq p (.inr rfl) ho hc hd (fun h' c' kp e=>fin its r' hz h' c' kp e) (by simp only [List.size_toArray] <;> omega)
def tyV (K:PySem.W.Frag) (T:String) (x:V) (H:Hp):Prop:=match x with
  | .str _=>T = "str"
  | .int _=>T = "int"
  | .ref p=>(T = "list" ∧ ∃ xs,SqL K H p xs) ∨ (T = "tuple" ∧ ∃ o,K.lookup p=some o∧o.cls = .type "tuple" ∧ o.dict=none) ∨
      (T = "dict" ∧ ((∃ kvs,H p=some (.dK kvs)) ∨ ∃ kvs,H p=some (.dT kvs))) ∨ (T = "set" ∧ ∃ S n,H p=some (.set S n))
  | _=>False
theorem tyV_is {pins:List (Addr × Obj)}{σ:St}{H:Hp}{s:Shared}{T:String}{x:V}{v:Value} (I:Inv X pins σ H s) (r:RelV x v) (ty:tyV X.K T x H) :
    s.TypeIs v T∧∀ a,v = .ref a->∃ ob,s.heap.get? a=some ob∧ob.dict=none:=by
  cases x with
  | str z =>
    obtain ⟨t,rfl⟩:=r
    cases (show T = "str" from ty)
    exact ⟨typeIs_str s z t,fun _ e=>nomatch e⟩
  | int i =>
    obtain ⟨t,rfl⟩:=r
    cases (show T = "int" from ty)
    exact ⟨typeIs_int s i t,fun _ e=>nomatch e⟩
  | ref p =>
    cases r
    rcases ty with ⟨rfl,xs,hq⟩ | ⟨rfl,o,hk,hc,hd⟩ | ⟨rfl,hk⟩ | ⟨rfl,S,n,hk⟩
    · obtain ⟨its,_,pl,_⟩:=I.list hq
      refine ⟨pl.isList.typeIs,fun a e=>?_⟩
      cases e
      obtain ⟨o,n,e,c,hd,_⟩:=pl
      exact ⟨o,e,hd⟩
    · refine ⟨⟨o,I.kIn p o hk,hc⟩,fun a e=>?_⟩
      cases e
      exact ⟨o,I.kIn _ o hk,hd⟩
    · have z:∃ o,s.heap.get? p=some o∧o.ExactDict:=by
        rcases hk with ⟨kvs,hk⟩ | ⟨kvs,hk⟩
        · obtain ⟨_,_,_,_,o,_,_,e,ex,_⟩:=I.hok p _ hk
          exact ⟨o,e,ex⟩
        · obtain ⟨_,_,_,_,o,_,_,e,ex,_⟩:=I.hok p _ hk
          exact ⟨o,e,ex⟩
      obtain ⟨o,e,ex⟩:=z
      refine ⟨⟨o,e,ex.1⟩,fun a e2=>?_⟩
      cases e2
      exact ⟨o,e,ex.2.1⟩
    · obtain ⟨o,_,_,_,e,ex,_⟩:=I.hok p _ hk
      refine ⟨⟨o,e,ex.1⟩,fun a e2=>?_⟩
      cases e2
      exact ⟨o,e,ex.2.1⟩
  | _=>exact False.elim ty
def tBM0 (K:PySem.W.Frag) (T:String) (r:V->List V->Hp->VK->Prop) (to:TE):TE:=fun σ H Q=>to σ H fun x H1=>tyV K T x H1∧r x [] H1 Q
def tBM (K:PySem.W.Frag) (T:String) (r:V->List V->Hp->VK->Prop) (to:TE) (t:TA):TE:=fun σ H Q=>to σ H fun x H1=>tyV K T x H1∧t σ H1 fun xs H2=>r x xs H2 Q
variable {o e:Expr}{es:List Expr}{to:TE}{t:TA}{name:Str}{apos cpos:Pos}{T id:String}{r:V->List V->Hp->VK->Prop}
theorem pe_bm0 (pa:PlainAttrs T) (slot:Slot T name id) (hty:typeOf (.builtin id)=pure (.type "method_descriptor")) (hm:MtR X id r) (ho:PE X o to)
    (hbase:attributeBase o name X.env (eval o X.env)=eval o X.env:=by rfl) (hline:(apos.endLine == cpos.line)=true:=by rfl):PE X (.Call (.Attribute o name apos) [] [] cpos) (tBM0 X.K T r to):=by
  intro pins s σ H Q I h
  refine wpAny_Call_method0_late hbase hline (thn (ho pins s σ H _ I h) fun v s1 ⟨x,H1,I1,r1,ty,q1⟩=>?_)
  obtain ⟨h1,h2⟩:=tyV_is I1 r1 ty
  exact ⟨T,id,pa,slot,hty,h1,h2,Calls.callWith_builtin rfl (PySem.evalArgs_none (hm pins s1 σ H1 x [] v [] Q I1 r1 .nil q1))⟩
theorem pe_bm (pa:PlainAttrs T) (slot:Slot T name id) (hty:typeOf (.builtin id)=pure (.type "method_descriptor")) (hm:MtR X id r) (ho:PE X o to) (ha:PA X (e :: es) t)
    (hbase:attributeBase o name X.env (eval o X.env)=eval o X.env:=by rfl)
    (hfew:((backTo cpos (starEach (e :: es) X.env)).all (fun x=>!x.1) && (backToKw cpos (keywordEach [] X.env)).all (fun x=>x.1.isSome)
      && decide ((e :: es).length + ([]:List Keyword).length + (if ([]:List Keyword).isEmpty then 0 else 1) < 30))=true:=by rfl)
    (hline:(apos.endLine == cpos.line)=true:=by rfl) (hs:starEach (e :: es) X.env=(false,eval e X.env) :: starEach es X.env:=by rfl) (hplain:(backTo cpos (starEach es X.env)).any (·.1)=false:=by rfl) :
    PE X (.Call (.Attribute o name apos) (e :: es) [] cpos) (tBM X.K T r to t):=by
  intro pins s σ H Q I h
  refine wpAny_Call_method_late hbase hfew hline rfl (thn (ho pins s σ H _ I h) fun v s1 ⟨x,H1,I1,r1,ty,q1⟩=>?_)
  obtain ⟨h1,h2⟩:=tyV_is I1 r1 ty
  refine ⟨T,id,pa,slot,hty,h1,h2,?_⟩
  have hA:=ha cpos pins s1 σ H1 _ I1 q1
  rw [hs] at hA ⊢
  refine Calls.callWith_builtin (by show (false || (backTo cpos (starEach es X.env)).any (·.1))=false; rw [hplain] <;> rfl) (Calls.evalArgs_plain ?_)
  exact thn hA fun us s2 ⟨vs,H2,I2,r2,q2⟩=>hm pins s2 σ H2 x vs v us Q I2 r1 r2 q2
end
end L2
namespace L2
open PySem PySem.Spec PyProof.Rows
def MtM (X:Cx) (id:String) (r:V->List V->Hp->VK->Prop):Prop :=
  ∀ (pins:List (Addr × Obj)) (s:Shared) (σ:St) (H:Hp) (x:V) (xs:List V) (v:Value) (us:List Value) (Q:VK),Inv X pins σ H s->RelV x v->Vals xs us->r x xs H Q →
    wpAny (model X.prog X.w) X.A (call (.builtin id) (v :: us)) (EP X pins σ Q) X.xe s
theorem Vals.one : ∀ {x:V}{us:List Value},Vals [x] us->∃ u,us=[u]∧RelV x u
  | _,_,.cons r .nil=>⟨_,rfl,r⟩
theorem Vals.zero : ∀ {us:List Value},Vals [] us->us=[]
  | _,.nil=>rfl
theorem Vals.dropLast {xs:List V}{us:List Value} (h:Vals xs us):Vals xs.dropLast us.dropLast:=by
  induction h with
  | nil=>exact .nil
  | cons r t ih =>
    cases t with
    | nil=>exact .nil
    | cons q t'=>exact .cons r ih
theorem erase_last {α:Type} (l:List α):l.eraseIdx (l.length - 1)=l.dropLast:=by
  induction l with
  | nil=>rfl
  | cons a r ih =>
    cases r with
    | nil=>rfl
    | cons b r =>
      have e:(a :: b :: r).length - 1=((b :: r).length - 1) + 1:=by
        have h1:(a :: b :: r).length=r.length + 2:=rfl
        have h2:(b :: r).length=r.length + 1:=rfl
        omega
      rw [e,List.eraseIdx_cons_succ,ih]
      all_goals rfl
section
variable {X:Cx}{pins:List (Addr × Obj)}{σ:St}{H:Hp}{s:Shared}{l b:Addr}{xs ys zs:List V}
theorem Inv.lset {its its':List Value}{n:Nat}{f:Array Value->Array Value}{t':Nat} (I:Inv X pins σ H s) (hH:H l=some (.lst xs))
    (e:s.heap.get? l=some { cls:=.type "list",data:=.seq its.toArray n }) (hf:f its.toArray=its'.toArray) (hv:Vals ys its') (hz:ys.length ≤ sizeLine) :
    Inv X pins σ (upd H l (.lst ys)) { s with heap:=s.heap.update l (Obj.mapSeq f),toks:=t' }:=by
  have q:=PySem.IsL.update e f
  rw [hf] at q
  refine I.write (x:=l) (e:=l) (by rw [hH]; exact trivial) (.inl rfl) (fun b' u hb hu=>(Heap.get?_update_other s.heap (Obj.mapSeq f) (Ne.symm hb)).trans hu) ⟨_,q⟩ ?_
  exact ⟨hz,its',_,hv,q⟩
theorem Inv.lnew {its:List Value}{t':Nat} (I:Inv X pins σ H s) (hv:Vals ys its) (hz:ys.length ≤ sizeLine) :
    Inv X pins σ (upd H s.heap.objs.size (.lst ys)) { s with heap:=s.heap.push { cls:=.type "list",data:=.seq its.toArray },toks:=t' } :=
  I.laid (fun _ _ q=>Heap.get?_push_of_some _ q) (Nat.le_refl _) ⟨hz,its,0,hv,Heap.get?_push_size _ rfl⟩
theorem Inv.fresh (I:Inv X pins σ H s):H s.heap.objs.size=none:=I.hok.fresh (Nat.le_refl _)
theorem Inv.lstM (I:Inv X pins σ H s) (hH:H l=some (.lst xs)):xs.length ≤ sizeLine∧∃ (its:List Value) (n:Nat),Vals xs its∧xs.length=its.length∧s.heap.get? l=some { cls:=.type "list",data:=.seq its.toArray n }:=by
  obtain ⟨z,its,n,r,e⟩:=I.hok l _ hH
  exact ⟨z,its,n,r,r.length,e⟩
theorem notLongL {n:Nat} (h:n ≤ sizeLine):Builtin.List.listTooLong n=false:=by
  unfold Builtin.List.listTooLong
  exact decide_eq_false (by omega)
end
section
variable {X:Cx}
def rAppend : V->List V->Hp->VK->Prop:=fun x vs H Q=>∃ l xs y,x = .ref l∧vs=[y]∧H l=some (.lst xs)∧xs.length < sizeLine∧Q .non (upd H l (.lst (xs ++ [y])))
theorem mt_append : MtM X "list.append" rAppend:=by
  intro pins s σ H x vs v us Q I rx rv h
  obtain ⟨l,xs,y,rfl,rfl,hH,hz,q⟩:=h
  cases rx
  obtain ⟨u,rfl,ru⟩:=rv.one
  obtain ⟨z,its,n,r,hl,e⟩:=I.lstM hH
  refine call_meets F.slot_list_append ⟨_,e,rfl⟩ F.entry_list_append (F.args_list_append_2 _ _) (PySem.list_append l its.toArray n u (by rw [List.size_toArray]; omega)) ⟨e,?_⟩
  refine ⟨.non,_,I.lset (its':=its ++ [u]) hH e (by simp) (r.append (.cons ru .nil)) ?_,rfl,q⟩
  rw [List.length_append,List.length_singleton]
  omega
def rExtend : V->List V->Hp->VK->Prop:=fun x vs H Q=>∃ l b xs zs,x = .ref l∧vs=[.ref b]∧H l=some (.lst xs)∧H b=some (.lst zs)∧xs.length + zs.length ≤ sizeLine∧Q .non (upd H l (.lst (xs ++ zs)))
theorem mt_extend : MtM X "list.extend" rExtend:=by
  intro pins s σ H x vs v us Q I rx rv h
  obtain ⟨l,b,xs,zs,rfl,rfl,hH,hB,hz,q⟩:=h
  cases rx
  obtain ⟨u,rfl,ru⟩:=rv.one
  cases ru
  obtain ⟨z,its,n,r,hl,e⟩:=I.lstM hH
  obtain ⟨z2,its2,n2,r2,hl2,e2⟩:=I.lstM hB
  have hsz:its.toArray.size + its2.toArray.size ≤ sizeLine:=by rw [List.size_toArray,List.size_toArray]; omega
  have hlong:¬ (!its.toArray.isEmpty && Builtin.List.listTooLong (its.toArray.size + its2.toArray.size))=true:=by
    rw [notLongL hsz,Bool.and_false]
    exact Bool.false_ne_true
  refine call_meets F.slot_list_extend ⟨_,e,rfl⟩ F.entry_list_extend (F.args_list_extend_2 _ _)
    (AutoSeq1.list_extend_list_list_0 l its.toArray n b its2.toArray n2 hlong (by rw [List.size_toArray]; omega) (by omega)) ⟨e,e2,?_⟩
  refine ⟨.non,_,I.lset (its':=its ++ its2) hH e (by simp) (r.append r2) ?_,rfl,q⟩
  rw [List.length_append]
  omega
def rPop : V->List V->Hp->VK->Prop:=fun x vs H Q=>∃ l xs y,x = .ref l∧vs=[]∧H l=some (.lst xs)∧xs[xs.length - 1]?=some y∧Q y (upd H l (.lst xs.dropLast))
theorem mt_pop : MtM X "list.pop" rPop:=by
  intro pins s σ H x vs v us Q I rx rv h
  obtain ⟨l,xs,y,rfl,rfl,hH,hy,q⟩:=h
  cases rx
  have hus:=rv.zero
  subst hus
  obtain ⟨z,its,n,r,hl,e⟩:=I.lstM hH
  obtain ⟨u,hu,ru⟩:=r.get hy
  have hy':its.toArray[its.toArray.size - 1]?=some u:=by
    show its.toArray[its.length - 1]?=some u
    rw [← Array.getElem?_toList,← hl]
    exact hu
  refine call_meets F.slot_list_pop ⟨_,e,rfl⟩ F.entry_list_pop (F.args_list_pop_1 _) (MeetsSeq.list_pop_last l its.toArray n u hy' (by rw [List.size_toArray]; omega)) ⟨e,?_⟩
  refine ⟨y,_,I.lset (its':=its.dropLast) hH e ?_ r.dropLast ?_,ru,q⟩
  · show its.toArray.eraseIdxIfInBounds (its.toArray.size - 1)=its.dropLast.toArray
    rw [List.size_toArray,List.eraseIdxIfInBounds_toArray,erase_last]
  · rw [List.length_dropLast]
    omega
def rCat : R2:=fun x y H Q=>∃ l b xs zs,x = .ref l∧y = .ref b∧H l=some (.lst xs)∧H b=some (.lst zs)∧xs.length + zs.length ≤ sizeLine∧∀ p,H p=none->Q (.ref p) (upd H p (.lst (xs ++ zs)))
theorem op_cat : OpR X (binaryOp .Add) rCat:=by
  intro pins s σ H x y v u Q I rx ry h
  obtain ⟨l,b,xs,zs,rfl,rfl,hH,hB,hz,q⟩:=h
  cases rx
  cases ry
  obtain ⟨z,its,n,r,hl,e⟩:=I.lstM hH
  obtain ⟨z2,its2,n2,r2,hl2,e2⟩:=I.lstM hB
  refine PySem.P.add_list e e2 ?_ (by rw [List.size_toArray,List.size_toArray]; omega)
  have ea:its.toArray ++ its2.toArray=(its ++ its2).toArray:=by simp
  rw [ea]
  exact ⟨.ref _,_,I.lnew (t':=s.toks) (r.append r2) (by rw [List.length_append]; omega),rfl,q _ I.fresh⟩
end
section
variable {prog:Program}{w:World}{A:Around}{E:Value->Shared->Prop}{s:Shared}
end
section
variable {X:Cx}
end
end L2
namespace L2
open PySem PySem.Spec PyProof.Rows
theorem Vals.ints : ∀ {ns:List Int}{us:List Value},Vals (ns.map V.int) us->IntsAre us ns
  | [],us,h=>by
    rw [List.map_nil] at h
    cases h
    exact IntsAre.nil
  | n :: ns,us,h=>by
    rw [List.map_cons] at h
    cases h with
    | cons r t =>
      obtain ⟨k,rfl⟩:=r
      exact IntsAre.cons n k (Vals.ints t)
theorem Vals.ref1 {a:Addr}{us:List Value} (r:Vals [V.ref a] us):us=[Value.ref a]:=by
  cases r with
  | cons r t =>
    cases t
    cases r
    rfl
section
variable {prog:Program}{w:World}{A:Around}{E:Value->Shared->Prop}{s:Shared}{l:Addr}{its:List Value}{ns:List Int}{Q:Value->Shared->Prop}
theorem sum_raw (hh:A.handled=none) (hl:s.heap.IsList l its.toArray) (hi:IntsAre its ns)
    (h:∀ h' tk t',(∀ b o,s.heap.get? b=some o->h'.get? b=some o)->Q (.int ns.sum t') { s with heap:=h',toks:=tk }):wpAny (model prog w) A (call (.builtin "sum") [.ref l]) Q E s:=by
  obtain ⟨xs,e⟩:=hi.allInts.items
  have hn:numsOf (intItems xs).toList=ns:=by rw [← e]; exact hi.numsOf
  rw [nums_intItems] at hn
  rw [e] at hl
  refine PySem.sum_intListG hh hl fun h' tk t' hk=>?_
  have:=h h' tk t' hk
  rw [preSum_eq,List.take_of_length_le (by simp),hn]; exact this
end
section
variable {X:Cx}
def rSum (K:PySem.W.Frag):List V->Hp->VK->Prop:=fun vs H Q=>∃ (a:Addr) (ns:List Int),vs=[V.ref a]∧SqL K H a (ns.map V.int)∧Q (.int ns.sum) H
theorem cr_sum (hc:X.calm=true):CallR X (.builtin "sum") (rSum X.K):=by
  intro pins s σ H vs us Q I r h
  obtain ⟨a,ns,rfl,hs,q⟩:=h
  obtain ⟨its,rv,hl,_⟩:=I.list hs
  rw [Vals.ref1 r]
  exact sum_raw (I.ok.hd hc) hl.isList rv.ints fun h' tk t' hk=>⟨.int _,H,I.kept hk,⟨_,rfl⟩,q⟩
end
section
variable {X:Cx}
end
section
variable {X:Cx}
end
section
variable {X:Cx}
end
mutual
inductive Dp (K:PySem.W.Frag) (H:Hp):V->PyData->Prop
  | non:Dp K H .non .none
  | bl (b:Bool):Dp K H (.bl b) (.bool b)
  | int (i:Int):Dp K H (.int i) (.int i)
  | str (x:Str):Dp K H (.str x) (.str x)
  | lst {a:Addr}{xs:List V}{ds:List PyData}:SqL K H a xs->DpAll K H xs ds->Dp K H (.ref a) (.list ds)
  | tup {a:Addr}{xs:List V}{ds:List PyData}:SqT K H a xs->DpAll K H xs ds->Dp K H (.ref a) (.tuple ds)
inductive DpAll (K:PySem.W.Frag) (H:Hp):List V->List PyData->Prop
  | nil:DpAll K H [] []
  | cons {v:V}{vs:List V}{d:PyData}{ds:List PyData}:Dp K H v d->DpAll K H vs ds->DpAll K H (v :: vs) (d :: ds)
end
section
variable {X:Cx}{pins:List (Addr × Obj)}{σ:St}{H:Hp}{s:Shared}
mutual
theorem Dp.reads (I:Inv X pins σ H s):∀ (d:PyData) (v:V) (u:Value),Dp X.K H v d->RelV v u->∃ as,Reads s.heap u d as
  | .none,_,_,h,r=>by
    cases h
    cases r
    exact ⟨_,Reads.none⟩
  | .bool b,_,_,h,r=>by
    cases h
    cases r
    exact ⟨_,Reads.bool b⟩
  | .int i,_,_,h,r=>by
    cases h
    obtain ⟨t,rfl⟩:=r
    exact ⟨_,Reads.int i t⟩
  | .str x,_,_,h,r=>by
    cases h
    obtain ⟨t,rfl⟩:=r
    exact ⟨_,Reads.str x t⟩
  | .list ds,_,_,h,r=>by
    cases h with
    | lst hs ha =>
      cases r
      obtain ⟨its,rv,⟨o,n,ho,hc,_,hd⟩,_⟩:=I.list hs
      obtain ⟨as,hr⟩:=Dp.readsAll I ds _ its ha rv
      exact ⟨_,Reads.list ho hc hd hr⟩
  | .tuple ds,_,_,h,r=>by
    cases h with
    | tup hs ha =>
      cases r
      obtain ⟨its,rv,⟨o,ho,hc,n,hd⟩,_⟩:=I.tuple hs
      obtain ⟨as,hr⟩:=Dp.readsAll I ds _ its ha rv
      exact ⟨_,Reads.tuple ho hc hd hr⟩
  | .dict _,_,_,h,_=>by cases h
theorem Dp.readsAll (I:Inv X pins σ H s):∀ (ds:List PyData) (vs:List V) (us:List Value),DpAll X.K H vs ds->Vals vs us->∃ as,ReadsAll s.heap us ds as
  | [],_,_,h,r=>by
    cases h
    cases r
    exact ⟨_,ReadsAll.nil⟩
  | d :: ds,_,_,h,r=>by
    cases h with
    | cons h1 h2 =>
      cases r with
      | cons r1 r2 =>
        obtain ⟨as,q1⟩:=Dp.reads I d _ _ h1 r1
        obtain ⟨bs,q2⟩:=Dp.readsAll I ds _ _ h2 r2
        exact ⟨_,ReadsAll.cons q1 q2⟩
end
end
section
variable {X:Cx}
def rEqD (K:PySem.W.Frag):R2:=fun x y H Q=>∃ d e,Dp K H x d∧Dp K H y e∧SeqAt.shaped d=true∧SeqAt.shaped e=true∧Q (.bl (PyData.eqv d e)) H
def rNeD (K:PySem.W.Frag):R2:=fun x y H Q=>∃ d e,Dp K H x d∧Dp K H y e∧SeqAt.shaped d=true∧SeqAt.shaped e=true∧Q (.bl (!PyData.eqv d e)) H
theorem op_eqD (hu:X.A.units + 64 < cLine):OpR X (compareOp .Eq) (rEqD X.K):=by
  intro pins s σ H x y v u Q I rx ry h
  obtain ⟨d,e,hd,he,sd,se,q⟩:=h
  obtain ⟨as,r1⟩:=Dp.reads I d x v hd rx
  obtain ⟨bs,r2⟩:=Dp.reads I e y u he ry
  exact SeqAt.compareEq_shaped r1 r2 sd se hu ⟨.bl _,H,I,rfl,q⟩
theorem op_neD (hu:X.A.units + 64 < cLine):OpR X (compareOp .NotEq) (rNeD X.K):=by
  intro pins s σ H x y v u Q I rx ry h
  obtain ⟨d,e,hd,he,sd,se,q⟩:=h
  obtain ⟨as,r1⟩:=Dp.reads I d x v hd rx
  obtain ⟨bs,r2⟩:=Dp.reads I e y u he ry
  exact SeqAt.compareNe_shaped r1 r2 sd se hu ⟨.bl _,H,I,rfl,q⟩
end
end L2
namespace L2
open PySem PySem.Spec PyProof.Rows
abbrev CellAt (h:Heap) (c:Addr) (v:Option Value):Prop:=h.IsCell c v
def relS (scope sc:Scope):Scope :=
  { scope with names:=scope.names.map fun (n,k)=>if (k == .free && sc.kind == .function && sc.names.lookup n == some .cell) then (n,.cell) else (n,k) }
def cloFrom (cells:List (Str × Addr)):List (Str × NameKind)->List (Str × Addr)->List (Str × Addr)
  | [],acc=>acc
  | (n,k) :: r,acc=>if k == .free then cloFrom cells r ((n,(cells.lookup n).getD 0) :: acc) else cloFrom cells r acc
theorem closure_loop (env:Env) (f:Str × NameKind->List (Str × Addr)->Sem (ForInStep (List (Str × Addr))))
    (hf:∀ n k c,f (n,k) c=if k == .free then (do let a ← cellOf env n; pure (.yield ((n,a) :: c))) else pure (.yield c)) :
    ∀ (names:List (Str × NameKind)) (acc:List (Str × Addr)),(∀ y ∈ names,y.2 = .free->∃ c,env.cells.lookup y.1=some c)->forIn names acc f=pure (cloFrom env.cells names acc)
  | [],acc,_=>by rw [List.forIn_nil]; rfl
  | (n,k) :: r,acc,h=>by
    rw [List.forIn_cons,hf]
    have ih:=fun acc=>closure_loop env f hf r acc fun y hy=>h y (List.mem_cons_of_mem _ hy)
    unfold cloFrom
    by_cases hk:(k == NameKind.free)=true
    · rw [if_pos hk,if_pos hk]
      obtain ⟨c,hc⟩:=h (n,k) List.mem_cons_self (by simpa using hk)
      have e:cellOf env n=pure c:=by unfold cellOf; rw [hc]
      rw [e]
      have e2:(env.cells.lookup n).getD 0=c:=by rw [hc]; rfl
      rw [e2]
      exact ih _
    · rw [if_neg hk,if_neg hk]
      exact ih _
theorem closure_ok {scope:Scope}{env:Env} (h:∀ y ∈ scope.names,y.2 = .free->∃ c,env.cells.lookup y.1=some c):closureFor scope env=pure (cloFrom env.cells scope.names []):=by
  simp only [closureFor]
  rw [closure_loop env _ (fun n k c=>rfl) scope.names [] h]
  rfl
theorem mem_lookup {α:Type}:∀ {l:List (Str × α)}{n:Str}{c:α},(n,c) ∈ l->∃ c',l.lookup n=some c'
  | (k,v) :: r,n,c,h=>by
    rw [List.lookup_cons]
    cases hb:n == k with
    | true=>exact ⟨_,rfl⟩
    | false =>
      rcases List.mem_cons.mp h with e | h
      · cases e; simp at hb
      · exact mem_lookup h
theorem cloFrom_mem {cells:List (Str × Addr)}:∀ {names:List (Str × NameKind)}{acc:List (Str × Addr)}{n:Str}{c:Addr},(n,c) ∈ cloFrom cells names acc->(n,c) ∈ acc ∨ ((n,.free) ∈ names∧c=(cells.lookup n).getD 0)
  | [],_,_,_,h=>.inl h
  | (m,k) :: r,acc,n,c,h=>by
    unfold cloFrom at h
    split at h
    · rename_i hk
      have hk:k = .free:=by simpa using hk
      rcases cloFrom_mem h with h | ⟨h1,h2⟩
      · rcases List.mem_cons.mp h with e | h
        · cases e; exact .inr ⟨hk ▸ List.mem_cons_self,rfl⟩
        · exact .inl h
      · exact .inr ⟨List.mem_cons_of_mem _ h1,h2⟩
    · rcases cloFrom_mem h with h | ⟨h1,h2⟩
      · exact .inl h
      · exact .inr ⟨List.mem_cons_of_mem _ h1,h2⟩
theorem cloFrom_acc {cells:List (Str × Addr)}:∀ {names:List (Str × NameKind)}{acc:List (Str × Addr)}{p:Str × Addr},p ∈ acc->p ∈ cloFrom cells names acc
  | [],_,_,h=>h
  | (m,k) :: r,acc,p,h=>by
    unfold cloFrom
    split
    · exact cloFrom_acc (List.mem_cons_of_mem _ h)
    · exact cloFrom_acc h
theorem cloFrom_has {cells:List (Str × Addr)}:∀ {names:List (Str × NameKind)}{acc:List (Str × Addr)}{n:Str},(n,.free) ∈ names->(n,(cells.lookup n).getD 0) ∈ cloFrom cells names acc
  | (m,k) :: r,acc,n,h=>by
    unfold cloFrom
    rcases List.mem_cons.mp h with e | h
    · cases e
      exact cloFrom_acc List.mem_cons_self
    · split
      · exact cloFrom_has h
      · exact cloFrom_has h
theorem cells_mem : ∀ {names:List (Str × NameKind)}{h:Heap}{acc:List (Str × Addr)}{x:Str}{c:Addr},(x,c) ∈ cellsFrom h.objs.size names acc →
    (x,c) ∈ acc ∨ ((x,.cell) ∈ names∧h.objs.size ≤ c∧CellAt (pushCells h names) c none)
  | [],_,_,_,_,h=>.inl h
  | (n,k) :: r,h,acc,x,c,hm=>by
    unfold cellsFrom at hm
    unfold pushCells
    split at hm
    · rename_i hk
      rw [if_pos hk]
      have hk:k = .cell:=by simpa using hk
      rw [← Heap.size_push h { cls:=.type "cell",data:=.cell none }] at hm
      rcases cells_mem hm with hm | ⟨h1,h2,h3⟩
      · rcases List.mem_cons.mp hm with e | hm
        · cases e
          exact .inr ⟨hk ▸ List.mem_cons_self,Nat.le_refl _,_,pushCells_keeps r _ _ _ (Heap.get?_push_size _ rfl),rfl⟩
        · exact .inl hm
      · rw [Heap.size_push] at h2
        exact .inr ⟨List.mem_cons_of_mem _ h1,Nat.le_of_succ_le h2,h3⟩
    · rename_i hk
      rw [if_neg hk]
      rcases cells_mem hm with hm | ⟨h1,h2,h3⟩
      · exact .inl hm
      · exact .inr ⟨List.mem_cons_of_mem _ h1,h2,h3⟩
theorem cells_acc : ∀ {names:List (Str × NameKind)}{n:Nat}{acc:List (Str × Addr)}{p:Str × Addr},p ∈ acc->p ∈ cellsFrom n names acc
  | [],_,_,_,h=>h
  | (m,k) :: r,n,acc,p,h=>by
    unfold cellsFrom
    split
    · exact cells_acc (List.mem_cons_of_mem _ h)
    · exact cells_acc h
theorem cells_has : ∀ {names:List (Str × NameKind)}{n:Nat}{acc:List (Str × Addr)}{x:Str},(x,.cell) ∈ names->∃ c,(x,c) ∈ cellsFrom n names acc
  | (m,k) :: r,n,acc,x,h=>by
    unfold cellsFrom
    rcases List.mem_cons.mp h with e | h
    · cases e
      exact ⟨n,cells_acc List.mem_cons_self⟩
    · split
      · exact cells_has h
      · exact cells_has h
theorem cells_inj : ∀ {names:List (Str × NameKind)}{h:Heap}{acc:List (Str × Addr)}{x y:Str}{c:Addr},(∀ p ∈ acc,p.2 < h.objs.size)->(∀ x y c,(x,c) ∈ acc->(y,c) ∈ acc->x=y) →
    (x,c) ∈ cellsFrom h.objs.size names acc->(y,c) ∈ cellsFrom h.objs.size names acc->x=y
  | [],_,_,_,_,_,_,hi,h1,h2=>hi _ _ _ h1 h2
  | (n,k) :: r,h,acc,x,y,c,hl,hi,h1,h2=>by
    unfold cellsFrom at h1 h2
    split at h1
    · rename_i hk
      rw [if_pos hk] at h2
      rw [← Heap.size_push h { cls:=.type "cell",data:=.cell none }] at h1 h2
      refine cells_inj (h:=h.push _) (fun p hp=>?_) (fun x y c a b=>?_) h1 h2
      · rw [Heap.size_push]
        rcases List.mem_cons.mp hp with rfl | hp
        · exact Nat.lt_succ_self _
        · exact Nat.lt_succ_of_lt (hl p hp)
      · rcases List.mem_cons.mp a with e | a <;> rcases List.mem_cons.mp b with e' | b
        · cases e; cases e'; rfl
        · cases e; exact absurd (hl _ b) (Nat.lt_irrefl _)
        · cases e'; exact absurd (hl _ a) (Nat.lt_irrefl _)
        · exact hi _ _ _ a b
    · rename_i hk
      rw [if_neg hk] at h2
      exact cells_inj hl hi h1 h2
theorem newEnv_comp {M:Model}{A:Around}{E:Value->Shared->Prop}{s:Shared}{scope:Scope}{globals:Addr}{closure:List (Str × Addr)}{qual:Str}{func:Option Addr}{code:Value}{around:Env}{builtins:Addr}{Q:Env->Shared->Prop}
    (h:Q (newEnv scope s.heap.objs.size globals (cellsFrom (s.heap.objs.size + 1) scope.names closure) qual func code (some around) builtins)
      { s with heap:=pushCells (s.heap.push { cls:=.type "dict",data:=.dict #[] }) scope.names }) :
    wpAny M A (newFunctionEnv scope globals closure [] qual func code (some around) builtins) Q E s:=by
  simp only [newFunctionEnv,Option.isSome_some,if_true]
  refine wpAny_bind (wpAny_alloc ?_)
  refine wpAny_bind (wpAny_layCells _ (fun n k c=>rfl) scope.names closure _ _ ?_)
  rw [show ({ s with heap:=s.heap.push { cls:=.type "dict",data:=.dict #[] } }:Shared).heap.objs.size=s.heap.objs.size + 1 from Heap.size_push ..]
  rw [List.forIn_nil]
  exact wpAny_bind (wpAny_pure (wpAny_pure h))
theorem lookup_relS {sc:Scope}:∀ {names:List (Str × NameKind)}{x:Str}{k:NameKind},
    (names.map fun (n,k)=>if (k == NameKind.free && sc.kind == .function && sc.names.lookup n == some .cell) then (n,NameKind.cell) else (n,k)).lookup x=some k →
    ∃ k',names.lookup x=some k'∧(k=k' ∨ (k' = .free∧k = .cell))
  | [],_,_,h=>by simp at h
  | (n,k₀) :: r,x,k,h=>by
    have ih:=@lookup_relS sc r x k
    have h':List.lookup x ((if (k₀ == NameKind.free && sc.kind == .function && sc.names.lookup n == some .cell)=true then (n,NameKind.cell) else (n,k₀)) :: (r.map _))=some k:=h
    cases hx:x == n with
    | true =>
      simp only [List.lookup_cons,hx]
      by_cases hc:(k₀ == NameKind.free && sc.kind == .function && sc.names.lookup n == some .cell)=true
      · rw [if_pos hc] at h'
        simp only [List.lookup_cons,hx] at h'
        cases h'
        simp only [Bool.and_eq_true,beq_iff_eq] at hc
        exact ⟨k₀,rfl,.inr ⟨hc.1.1,rfl⟩⟩
      · rw [if_neg hc] at h'
        simp only [List.lookup_cons,hx] at h'
        cases h'
        exact ⟨_,rfl,.inl rfl⟩
    | false =>
      simp only [List.lookup_cons,hx]
      by_cases hc:(k₀ == NameKind.free && sc.kind == .function && sc.names.lookup n == some .cell)=true
      · rw [if_pos hc] at h'
        simp only [List.lookup_cons,hx] at h'
        exact ih h'
      · rw [if_neg hc] at h'
        simp only [List.lookup_cons,hx] at h'
        exact ih h'
structure BlkOk (N:List Str) (sc scope:Scope) (own:List (Str × Nat)):Prop where
  kind:scope.kind = .function
  uniq:∀ y ∈ scope.names,scope.names.lookup y.1=some y.2
  ix:∀ p ∈ own,N[p.2]?=some p.1
  free:∀ y ∈ scope.names,y.2 = .free->sc.names.lookup y.1=some .cell ∨ sc.names.lookup y.1=some .free
  own:∀ y ∈ scope.names,y.2 = .local ∨ y.2 = .cell->y.1 ∈ own.map (·.1) ∨ y.1 ∉ N
def wipe (σ:St):List Nat->St
  | []=>σ
  | v :: vs=>(wipe σ vs).set v none
theorem wipe_length (σ:St):∀ vs:List Nat,(wipe σ vs).length=σ.length
  | []=>rfl
  | v :: vs=>by unfold wipe; rw [List.length_set,wipe_length σ vs]
theorem wipe_some {σ:St}{i:Nat}{x:V}:∀ {vs:List Nat},(wipe σ vs)[i]?=some (some x)->σ[i]?=some (some x)∧i ∉ vs
  | [],h=>⟨h,by simp⟩
  | v :: vs,h=>by
    unfold wipe at h
    by_cases hi:v=i
    · subst hi
      by_cases hv:v < (wipe σ vs).length
      · rw [List.getElem?_set_self hv] at h; cases h
      · rw [List.getElem?_eq_none (by simpa using hv)] at h; cases h
    · rw [List.getElem?_set_ne hi] at h
      obtain ⟨h1,h2⟩:=wipe_some h
      exact ⟨h1,by simp only [List.mem_cons,not_or]; exact ⟨fun e=>hi e.symm,h2⟩⟩
abbrev Cx.blk (X:Cx) (s:Shared) (H:Hp) (scope:Scope) (cenv:Env) (fp:List Addr):Cx:={ X with s_0:=s,H_0:=H,env:=cenv,outer:=X.stack,ex:=fp,fn:=fun x=>scope.names.lookup x == some .cell,pn:=[],xe:=fun _ _=>False }
section
variable {X:Cx}{pins:List (Addr × Obj)}{σ:St}{H:Hp}{s:Shared}
theorem block_start {scope:Scope}{own:List (Str × Nat)}{fp:List Addr} (I:Inv X pins σ H s) (ok:BlkOk X.N X.env.scope scope own) (hN:X.N.Nodup) (hfp:∀ b ∈ fp,FpOk X pins H b∧b < s.heap.objs.size) :
    Inv (X.blk s H scope (compEnvC scope (cellsFrom (s.heap.objs.size + 1) scope.names (cloFrom X.env.cells scope.names [])) s.heap.objs.size X.env) fp) [] (wipe σ (own.map (·.2))) H { s with heap:=pushCells (s.heap.push { cls:=.type "dict",data:=.dict #[] }) scope.names }:=by
  have hfree:∀ y ∈ scope.names,y.2 = .free->∃ c,X.env.cells.lookup y.1=some c:=fun y hy e=>by
    rcases ok.free y hy e with k | k
    · exact I.ok.has _ (.inl k)
    · exact I.ok.has _ (.inr k)
  generalize hcenv:compEnvC scope (cellsFrom (s.heap.objs.size + 1) scope.names (cloFrom X.env.cells scope.names [])) s.heap.objs.size X.env=cenv
  have kp:∀ b o,s.heap.get? b=some o->(pushCells (s.heap.push { cls:=.type "dict",data:=.dict #[] }) scope.names).get? b=some o:=fun b o e=>pushCells_keeps _ _ _ _ (Heap.get?_push_of_some _ e)
  have hL:cenv.locals=s.heap.objs.size:=by rw [← hcenv]; rfl
  have hcl:cenv.cells=cellsFrom (s.heap.objs.size + 1) scope.names (cloFrom X.env.cells scope.names []):=by rw [← hcenv]; rfl
  have hsc:cenv.scope=relS scope X.env.scope:=by rw [← hcenv]; rfl
  rw [← Heap.size_push s.heap { cls:=.type "dict",data:=.dict #[] }] at hcl
  have cm:∀ {y c},(y,c) ∈ cloFrom X.env.cells scope.names []->X.env.cells.lookup y=some c∧c < s.heap.objs.size:=fun {y c} hm=>by
    rcases cloFrom_mem hm with hm | ⟨h1,rfl⟩
    · cases hm
    · obtain ⟨c,hc⟩:=hfree _ h1 rfl
      rw [hc]
      obtain ⟨w,z⟩:=I.cell _ _ hc
      exact ⟨rfl,z.lt⟩
  have mem:∀ {y c},cenv.cells.lookup y=some c->(X.env.cells.lookup y=some c∧c < s.heap.objs.size) ∨ (s.heap.objs.size + 1 ≤ c∧CellAt (pushCells (s.heap.push { cls:=.type "dict",data:=.dict #[] }) scope.names) c none):=fun {y c} e=>by
    rw [hcl] at e
    rcases cells_mem (PySem.mem_of_lookup e) with hm | ⟨_,h2,h3⟩
    · exact .inl (cm hm)
    · rw [Heap.size_push] at h2; exact .inr ⟨h2,h3⟩
  have look:∀ {y},scope.names.lookup y=some .free->∃ c,cenv.cells.lookup y=some c∧X.env.cells.lookup y=some c:=fun {y} hl=>by
    have hy:(y,NameKind.free) ∈ scope.names:=PySem.mem_of_lookup hl
    obtain ⟨c',e'⟩:=mem_lookup (cells_acc (names:=scope.names) (n:=(s.heap.push { cls:=.type "dict",data:=.dict #[] }).objs.size) (cloFrom_has (cells:=X.env.cells) (acc:=[]) hy))
    rw [← hcl] at e'
    refine ⟨c',e',?_⟩
    rw [hcl] at e'
    rcases cells_mem (PySem.mem_of_lookup e') with hm | ⟨h1,_,_⟩
    · exact (cm hm).1
    · have:=ok.uniq _ h1
      rw [hl] at this; cases this
  have okB:(X.blk s H scope cenv fp).Ok:=by
    refine ⟨I.ok.mod,by show cenv.scope.kind=_; rw [hsc]; exact ok.kind,by show cenv.globals=_; rw [← hcenv]; exact I.ok.glob,by show cenv.builtins=_; rw [← hcenv]; exact I.ok.blt,by show s.heap.objs.size ≤ cenv.locals; rw [hL]; exact Nat.le_refl _,
      fun y z c e1 e2=>?_,fun y hy=>?_,fun y c z e=>?_,I.ok.hd,I.ok.frames,.inl rfl,fun b hb=>⟨?_,fun y c e z=>?_⟩,I.bs,Nat.le_trans I.ok.bsz I.sz,fun b o e hb=>?_,fun b hb z=>?_,I.stack,I.stkFree⟩
    · have e1:cenv.cells.lookup y=some c:=e1
      have e2:cenv.cells.lookup z=some c:=e2
      rw [hcl] at e1 e2
      refine cells_inj (fun p hp=>?_) (fun y z c a b=>I.ok.inj y z c (cm a).1 (cm b).1) (PySem.mem_of_lookup e1) (PySem.mem_of_lookup e2)
      rw [Heap.size_push]
      exact Nat.lt_succ_of_lt (cm (y:=p.1) (c:=p.2) hp).2
    · show ∃ c,cenv.cells.lookup y=some c
      have key:∀ k,cenv.kindOf y=some k->(k = .cell ∨ k = .free)->∃ c,cenv.cells.lookup y=some c:=fun k hk hk'=>by
        unfold Env.kindOf at hk
        rw [hsc] at hk
        obtain ⟨k',e,r⟩:=lookup_relS hk
        have:k' = .cell ∨ k' = .free:=by
          rcases r with rfl | ⟨rfl,_⟩
          · exact hk'
          · exact .inr rfl
        rcases this with rfl | rfl
        · obtain ⟨c,hm⟩:=cells_has (n:=(s.heap.push { cls:=.type "dict",data:=.dict #[] }).objs.size) (acc:=cloFrom X.env.cells scope.names []) (PySem.mem_of_lookup e)
          obtain ⟨c',e'⟩:=mem_lookup hm
          exact ⟨c',by rw [hcl]; exact e'⟩
        · obtain ⟨c,h1,_⟩:=look e
          exact ⟨c,h1⟩
      rcases hy with hy | hy
      · exact key _ hy (.inl rfl)
      · exact key _ hy (.inr rfl)
    · have z:(scope.names.lookup y == some NameKind.cell)=true:=z
      have z:scope.names.lookup y=some .cell:=by simpa using z
      have e:cenv.cells.lookup y=some c:=e
      rw [hcl] at e
      rcases cells_mem (PySem.mem_of_lookup e) with hm | ⟨_,h2,_⟩
      · rcases cloFrom_mem hm with hm | ⟨h1,_⟩
        · cases hm
        · have q:=ok.uniq _ h1
          rw [z] at q; cases q
      · rw [Heap.size_push] at h2
        exact Nat.le_of_succ_le h2
    · show b ≠ cenv.locals
      rw [hL]; exact Nat.ne_of_lt (hfp b hb).2
    · have e:cenv.cells.lookup y=some c:=e
      rcases mem e with ⟨h1,_⟩ | ⟨h1,_⟩
      · exact (hfp b hb).1.2.2.2.2.1 y c h1 z
      · have h2:s.heap.objs.size + 1 ≤ b:=by rw [← z]; exact h1
        exact absurd (Nat.lt_of_lt_of_le (hfp b hb).2 (Nat.le_of_succ_le h2)) (Nat.lt_irrefl _)
    · rcases (hfp b hb).1.2.2.2.1 with z | z
      · exact I.ok.noex b o e z
      · exact absurd (Nat.lt_of_lt_of_le (Heap.lt_size e) (Nat.le_trans I.ok.bsz z)) (Nat.lt_irrefl _)
    · rcases List.mem_cons.mp (I.stkSub b z) with z | z
      · exact (hfp b hb).1.2.1 z
      · exact (hfp b hb).1.2.2.1 z
  refine ⟨okB,rfl,I.bare,Un.kept kp,⟨fun _=>none,?_,fun i y av e1 e2 e3=>?_⟩,fun y c e=>?_,?_,fun y c e=>?_,fun p hp=>?_,I.hok.kept kp,by rw [wipe_length]; exact I.len⟩
  · show Heap.Ns _ cenv.locals _
    rw [hL]
    exact Heap.Ns.keeps (Heap.Ns.new ..) fun b o e=>pushCells_keeps _ _ _ _ e
  · obtain ⟨e2,hne⟩:=wipe_some e2
    have hfr:scope.names.lookup y=some .free∧(cenv.kindOf y=some .cell ∨ cenv.kindOf y=some .free):=by
      have key:∀ k,cenv.scope.names.lookup y=some k->k = .local ∨ k = .cell ∨ k = .free->scope.names.lookup y=some .free∧(cenv.kindOf y=some .cell ∨ cenv.kindOf y=some .free):=fun k hk hk'=>by
        have hk0:=hk
        rw [hsc] at hk
        obtain ⟨k',e,r⟩:=lookup_relS hk
        have no:¬ (k' = .local ∨ k' = .cell):=fun hh=>by
          rcases ok.own _ (PySem.mem_of_lookup e) hh with e' | e'
          · obtain ⟨p,hp,hpy⟩:=List.mem_map.mp e'
            have e3:=ok.ix p hp
            have:p.1=y:=hpy
            rw [this] at e3
            exact hne (List.mem_map.mpr ⟨p,hp,nodup_ix hN e3 e1⟩)
          · exact e' (List.mem_of_getElem? e1)
        rcases r with rfl | ⟨rfl,rfl⟩
        · rcases hk' with rfl | rfl | rfl
          · exact absurd (.inl rfl) no
          · exact absurd (.inr rfl) no
          · exact ⟨e,.inr hk0⟩
        · exact ⟨e,.inl hk0⟩
      have e3:Vis cenv.scope y:=e3
      rcases e3 with e3 | e3 | e3
      · exact key _ e3 (.inl rfl)
      · exact key _ e3 (.inr (.inl rfl))
      · exact key _ e3 (.inr (.inr rfl))
    obtain ⟨m,hn,hl⟩:=I.loc
    have hvis:Vis X.env.scope y:=(ok.free _ (PySem.mem_of_lookup hfr.1) rfl).elim (fun k=>.inr (.inl k)) (fun k=>.inr (.inr k))
    obtain ⟨w,r,q⟩:=hl i y av e1 e2 hvis
    refine ⟨w,r,.inr ⟨hfr.2,?_⟩⟩
    obtain ⟨c,h1,h2⟩:=look hfr.1
    rcases q with ⟨k,_⟩ | ⟨_,c',e',z⟩
    · have k:X.env.scope.names.lookup y=some .local:=k
      rcases ok.free _ (PySem.mem_of_lookup hfr.1) rfl with k' | k' <;> rw [show X.env.scope.names.lookup y=_ from k'] at k <;> cases k
    · rw [h2] at e'; cases e'
      exact ⟨c,h1,z.keeps kp⟩
  · have e:cenv.cells.lookup y=some c:=e
    rcases mem e with ⟨h1,_⟩ | ⟨_,z⟩
    · obtain ⟨w,z⟩:=I.cell y c h1
      exact ⟨w,z.keeps kp⟩
    · exact ⟨_,z⟩
  · show H cenv.locals=none
    rw [hL]; exact I.hok.fresh (Nat.le_refl _)
  · have e:cenv.cells.lookup y=some c:=e
    rcases mem e with ⟨h1,_⟩ | ⟨h1,_⟩
    · exact I.freeC y c h1
    · exact I.hok.fresh (Nat.le_of_succ_le h1)
  · exact absurd (show p ∈ ([]:List (Addr × Obj)) ++ [] from hp) (by simp)
theorem app_ok {E:Value->Shared->Prop}{D:Addr}{xs:List V}{y:V}{v:Value}{Q:Value->Shared->Prop} (I:Inv X pins σ H s) (hD:H D=some (.lst xs)) (hz:xs.length < sizeLine) (r:RelV y v)
    (h:∀ s',Inv X pins σ (upd H D (.lst (xs ++ [y]))) s'->Q .none s'):wpAny (model X.prog X.w) X.A (call (.builtin "list.append") [.ref D,v]) Q E s:=by
  obtain ⟨hz',its,n,ri,e⟩:=I.hok D _ hD
  have hl:=ri.length
  refine append_at (hsz:=by rw [List.size_toArray]; omega) e fun h' sb ho'=>?_
  refine h { s with heap:=h' } (I.write (t':=s.toks) (by rw [hD]; trivial) (.inl rfl) (fun b u hb q=>(sb.2 b hb).trans q) ⟨_,ho'⟩ ⟨by rw [List.length_append]; exact hz,its ++ [v],n + 1,ri.append (.cons r .nil),?_⟩)
  rw [ho']
  simp
def PTs (X:Cx) (ifs:List Expr) (t:TT):Prop :=
  ∀ (pins:List (Addr × Obj)) (s:Shared) (σ:St) (H:Hp) (Q:Bool->Hp->Prop),Inv X pins σ H s->t σ H Q →
    wpAny (model X.prog X.w) X.A (forIn ifs true fun c r=>if r=true then do let ok ← isTrue c X.env (eval c X.env); pure (ForInStep.yield ok) else pure (ForInStep.yield r)) (TP X pins σ Q) X.xe s
def tYes : TT:=fun _ H Q=>Q true H
theorem pts_nil : PTs X [] tYes:=fun _ _ _ H _ I h=>wpAny_tests_nil ⟨H,I,h⟩
theorem pts_one {c:Expr}{t:TT} (h:PT X c t):PTs X [c] t:=fun pins s σ H Q I hw=>wpAny_tests_one (h pins s σ H Q I hw)
end
theorem thnF {α:Type}{t:Sem α}{Q Q':α->Shared->Prop}{M:Model}{A:Around}{E:Value->Shared->Prop}{s:Shared} (h:wpAny M A t Q (fun _ _=>False) s) (hQ:∀ a s,Q a s->Q' a s):wpAny M A t Q' E s:=wpAny_mono h hQ fun _ _ z=>False.elim z
theorem compLoop_any {prog:Program}{w:World}{A:Around}{R:Result->Shared->Prop}{s:Shared}{elt target iter:Expr}{ifs:List Expr}{scope:Scope}{pos:Pos}{it acc:Value}{env:Env} (I:Nat->Shared->Prop)
    (turn:∀ n s,I n s->wpAny (model prog w) A (pyNext it) (fun r s₁=>match r with
      | none=>R (.ok .next) s₁
      | some v=>wpAny (model prog w) A (letOwnedTupleGo target it v) (fun _ s₁'=>wpAny (model prog w) A (assign target env v) (fun _ s₂ =>
          wpAny (model prog w) A (forIn ifs true fun c r=>if r=true then do let ok ← isTrue c env (eval c env); pure (ForInStep.yield ok) else pure (ForInStep.yield r)) (fun ok s₃ =>
            if ok=true then wpAny (model prog w) A (eval elt env) (fun x s₄ =>
              wpAny (model prog w) A (call (.builtin "list.append") [acc,x]) (fun _ s₅=>∃ m,m < n∧I m s₅) (notedBy (model prog w) A env fun e s'=>R (.error e) s') s₄) (notedBy (model prog w) A env fun e s'=>R (.error e) s') s₃
            else ∃ m,m < n∧I m s₃) (notedBy (model prog w) A env fun e s'=>R (.error e) s') s₂) (notedBy (model prog w) A env fun e s'=>R (.error e) s') s₁') (notedBy (model prog w) A env fun e s'=>R (.error e) s') s₁) (notedBy (model prog w) A env fun e s'=>R (.error e) s') s)
    (n:Nat) (h:I n s) :
    codeAny (model prog w) A (.compLoop (.ListComp elt [⟨target,iter,ifs,0⟩] scope pos) 0 it acc env) R s:=by
  refine codeAny_loop rfl I (fun n s hI=>?_) n h
  show wpAny _ A ((compTurn (.ListComp elt [⟨target,iter,ifs,0⟩] scope pos) 0 it acc env).onRaise (fun x=>do noteFrame x env; theTreesLotGoes x)) _ _ s
  refine wpAny_noted ?_
  rw [compTurn_list]
  refine wpAny_bind (wpAny_standAt (wpAny_bind (wpAny_mono (turn n s hI) (fun r s₁ h₁=>?_) fun _ _ h'=>h')))
  cases r with
  | none=>exact wpAny_pure h₁
  | some v =>
    refine wpAny_bind (wpAny_mono h₁ (fun _ s₁' h₁'=>?_) fun _ _ h'=>h')
    refine wpAny_bind (wpAny_mono h₁' (fun _ s₂ h₂=>wpAny_bind (wpAny_mono h₂ (fun ok s₃ h₃=>?_) fun _ _ h'=>h')) fun _ _ h'=>h')
    cases ok with
    | false=>exact wpAny_pure ⟨rfl,h₃⟩
    | true =>
      exact wpAny_bind (wpAny_bind (wpAny_mono h₃ (fun x s₄ h₄=>wpAny_bind (wpAny_mono h₄ (fun _ s₅ h₅=>wpAny_pure (wpAny_pure ⟨rfl,h₅⟩)) fun _ _ h'=>h')) fun _ _ h'=>h'))
section
variable {X:Cx}
def tLc (wi:TI) (g:TG) (tt:TT) (te:TE) (vs:List Nat):TE:=fun σ H Q=>wi σ H fun J H1=>∀ D,H1 D=none->∃ W:Nat->Nat->Hp->Prop,(∃ m,W 0 m (upd H1 D (.lst [])))∧∀ i m H,W i m H →
  (J.stop i H∧Q (.ref D) H) ∨ (J.go i H∧∃ Nx:Hp->Prop,(∀ H',Nx H'->∃ m',m' < m∧W (i + 1) m' H')∧∀ x H',J.yld i H x H'->g x (wipe σ vs) H' fun σ2 H2=>wipe σ2 vs=wipe σ vs∧tt σ2 H2 fun b H3 =>
    if b=true then te σ2 H3 fun y H4=>∃ acc,H4 D=some (.lst acc)∧acc.length < sizeLine∧Nx (upd H4 D (.lst (acc ++ [y]))) else Nx H3)
theorem lc_core {pins:List (Addr × Obj)}{s:Shared}{σ:St}{H:Hp}{Q:VK}{elt tg iter:Expr}{ifs:List Expr}{scope:Scope}{own:List (Str × Nat)}{pos pos':Pos}{wi:TI}{g:TG}{tt:TT}{te:TE}{use:Option (Value->Sem Unit)}{Qf:Value->Shared->Prop}
    (hc:X.calm=true) (hN:X.N.Nodup) (I:Inv X pins σ H s) (hi:PI X tg iter wi) (ok:BlkOk X.N X.env.scope scope own)
    (hg:∀ (s:Shared) (H:Hp) (C:Addr) (cl:List (Str × Addr)) (fp:List Addr),PG (X.blk s H scope (compEnvC scope cl C X.env) fp) tg g) (ht:∀ (s:Shared) (H:Hp) (C:Addr) (cl:List (Str × Addr)) (fp:List Addr),PTs (X.blk s H scope (compEnvC scope cl C X.env) fp) ifs tt)
    (he:∀ (s:Shared) (H:Hp) (C:Addr) (cl:List (Str × Addr)) (fp:List Addr),PE (X.blk s H scope (compEnvC scope cl C X.env) fp) elt te) (hs:∀ x,foldedSetIterable iter X.env x=pure x)
    (h:tLc wi g tt te (own.map (·.2)) σ H Q)
    (hRR:∀ D C s' m H',Inv X pins σ H' s'->Q (.ref D) H'->s'.heap.Ns C m->FpOk X pins H' C->compPost (model X.prog X.w) X.A X.xe use Qf (.ref D) C (.ok .next) s') :
    wpAny (model X.prog X.w) X.A (comprehension (.ListComp elt [⟨tg,iter,ifs,0⟩] scope pos) scope X.env pos' (newList []) false (eval iter X.env) use) Qf X.xe s:=by
  have hfree:∀ y ∈ scope.names,y.2 = .free->∃ c,X.env.cells.lookup y.1=some c:=fun y hy e=>by
    rcases ok.free y hy e with k | k
    · exact I.ok.has _ (.inl k)
    · exact I.ok.has _ (.inr k)
  refine wpAny_comprehension_free (use:=use) rfl hs (closure_ok hfree) ok.kind (fun y hy e=>by rw [ok.uniq y hy,e])
    (thn (hi pins s σ H _ I h) fun xv s1 hx=>thn hx fun itv s2 h2=>?_)
  obtain ⟨it,fp,tn,J,H2,e,I2,T,st2,f2,q⟩:=h2
  subst e
  refine wpAny_newObj_type (newEnv_comp ?_) (by show 0 ≤ sizeLine; decide)
  generalize hD:s2.heap.objs.size=D
  have hDn:H2 D=none:=I2.hok.fresh (Nat.le_of_eq hD)
  obtain ⟨W,⟨m0,w0⟩,turn⟩:=q D hDn
  generalize hs3:({ s2 with heap:=s2.heap.push { cls:=.type "list",data:=.seq ([]:List Value).toArray } }:Shared)=s3
  have I3:Inv X pins σ (upd H2 D (.lst [])) s3:=by
    rw [← hs3]
    refine I2.laid (t':=s2.toks) (fun b o e=>Heap.get?_push_of_some _ e) (Nat.le_of_eq hD) ⟨Nat.zero_le _,[],0,.nil,?_⟩
    rw [← hD]
    exact Heap.get?_push_size _ rfl
  have h3:s3.heap=s2.heap.push { cls:=.type "list",data:=.seq ([]:List Value).toArray }:=by rw [← hs3]
  have sz:∀ b ∈ fp,b < s2.heap.objs.size:=fun b hb=>by
    obtain ⟨o,e,_⟩:=T.obj _ _ st2 b hb
    exact Heap.lt_size e
  have f3:∀ b ∈ fp,FpOk X pins (upd H2 D (.lst [])) b∧b < s3.heap.objs.size:=fun b hb=>by
    have hlt:=sz b hb
    refine ⟨⟨?_,(f2 b hb).2⟩,by rw [h3,Heap.size_push]; exact Nat.lt_succ_of_lt hlt⟩
    rw [upd_ne (by rw [← hD]; exact Nat.ne_of_lt hlt)]
    exact (f2 b hb).1
  have st3:tn 0 s3.heap:=T.keep _ _ _ st2 fun b _ o e=>by rw [h3]; exact Heap.get?_push_of_some _ e
  have I4:=block_start I3 ok hN f3
  have pg:=hg s3 (upd H2 D (.lst [])) s3.heap.objs.size (cellsFrom (s3.heap.objs.size + 1) scope.names (cloFrom X.env.cells scope.names [])) fp
  have pt:=ht s3 (upd H2 D (.lst [])) s3.heap.objs.size (cellsFrom (s3.heap.objs.size + 1) scope.names (cloFrom X.env.cells scope.names [])) fp
  have pe:=he s3 (upd H2 D (.lst [])) s3.heap.objs.size (cellsFrom (s3.heap.objs.size + 1) scope.names (cloFrom X.env.cells scope.names [])) fp
  show codeAny _ _ (.compStart (.ListComp elt [⟨tg,iter,ifs,0⟩] scope pos) 0 (.ref it) (.ref D) (compEnvC scope (cellsFrom (s3.heap.objs.size + 1) scope.names (cloFrom X.env.cells scope.names [])) s3.heap.objs.size X.env)) (compPost (model X.prog X.w) X.A X.xe use Qf (.ref D) s3.heap.objs.size) { s3 with heap:=pushCells (s3.heap.push { cls:=.type "dict",data:=.dict #[] }) scope.names }
  have nfp:∀ b ∈ fp,(upd H2 D (.lst [])) b=none:=fun b hb=>(f3 b hb).1.1
  generalize hce:compEnvC scope (cellsFrom (s3.heap.objs.size + 1) scope.names (cloFrom X.env.cells scope.names [])) s3.heap.objs.size X.env=ce at I4 pg pt pe ⊢
  have cL:ce.locals=s3.heap.objs.size:=by subst hce; rfl
  generalize hH3:upd H2 D (.lst [])=H3 at I3 I4 pg pt pe w0 nfp f3
  generalize hs4:({ s3 with heap:=pushCells (s3.heap.push { cls:=.type "dict",data:=.dict #[] }) scope.names }:Shared)=s4 at I4 ⊢
  have st4:tn 0 s4.heap:=T.keep _ _ _ st3 fun b _ o e=>by rw [← hs4]; exact pushCells_keeps _ _ _ _ (Heap.get?_push_of_some _ e)
  have stat:∀ {σ':St}{H':Hp}{s':Shared},Inv (X.blk s3 H3 scope ce fp) [] σ' H' s'->(∀ b ∈ fp,H' b=none)->∀ b ∈ fp,FpOk (X.blk s3 H3 scope ce fp) [] H' b:=fun {σ' H' s'} I' hn b hb =>
    ⟨hn b hb,(I'.ok.exf b hb).1,I'.ok.exfs b hb,.inl hb,fun x c e=>(I'.ok.exf b hb).2 x c e,fun p hp=>absurd (show p ∈ ([]:List (Addr × Obj)) ++ [] from hp) (by simp)⟩
  have loop:codeAny (model X.prog X.w) X.A (.compLoop (.ListComp elt [⟨tg,iter,ifs,0⟩] scope pos) 0 (.ref it) (.ref D) ce) (compPost (model X.prog X.w) X.A X.xe use Qf (.ref D) s3.heap.objs.size) s4:=by
    refine compLoop_any (fun n s'=>∃ i H',Inv (X.blk s3 H3 scope ce fp) [] (wipe σ (own.map (·.2))) H' s'∧tn i s'.heap∧(∀ b ∈ fp,H' b=none)∧W i n H') ?_ m0 ⟨0,H3,I4,st4,nfp,w0⟩
    rintro n s5 ⟨i,H5,I5,st5,n5,w5⟩
    rcases turn i n H5 w5 with ⟨stop,qq⟩ | ⟨go,Nx,hNx,step⟩
    · have td:=T.done (X.blk s3 H3 scope ce fp) rfl rfl rfl hc i [] s5 _ H5 (fun _ _=>False) I5 (stat I5 n5) st5 stop
      refine thnF td fun r s6 ⟨hr,I6⟩=>?_
      subst hr
      have I7:Inv X pins σ H5 s6:=I3.call' (ch:=fp) I6.os I6.base I6.hok I6.bare fun b hb=>⟨(f3 b hb).1.2.2.2.1,(f3 b hb).1.2.1,(f3 b hb).1.2.2.2.2.1,(f3 b hb).1.2.2.2.2.2⟩
      have nC:H5 s3.heap.objs.size=none:=by
        have z:H5 ce.locals=none:=I6.free
        rw [cL] at z
        exact z
      obtain ⟨m,hn,_⟩:=I6.loc
      have hn:s6.heap.Ns ce.locals m:=hn
      rw [cL] at hn
      exact hRR D s3.heap.objs.size s6 m H5 I7 qq hn (I3.fpOk (Nat.le_refl _) nC)
    · have ti:=T.item (X.blk s3 H3 scope ce fp) rfl rfl rfl hc i [] s5 _ H5 (fun _ _=>False) I5 (stat I5 n5) st5 go
      refine thnF ti fun r s6 ⟨u,hr,h6⟩=>?_
      subst hr
      refine thnF h6 fun _ s7 ⟨x,H7,I7,r7,y7,st7,n7⟩=>?_
      have I7':=I7.pinned (stat I7 n7) (T.obj _ _ st7)
      refine thnF (pg _ s7 _ H7 x u _ I7' r7 (step x H7 y7)) fun _ s8 ⟨σ8,H8,I8,hw8,q8⟩=>?_
      refine thnF (pt _ s8 σ8 H8 _ I8 q8) fun b s9 ⟨H9,I9,q9⟩=>?_
      have fin:∀ {s':Shared}{H':Hp},Inv (X.blk s3 H3 scope ce fp) ([] ++ pinsAt fp s7.heap) σ8 H' s'->Nx H'->∃ m,m < n∧∃ i H',Inv (X.blk s3 H3 scope ce fp) [] (wipe σ (own.map (·.2))) H' s'∧tn i s'.heap∧(∀ b ∈ fp,H' b=none)∧W i m H':=fun {s' H'} I' nx=>by
        obtain ⟨m',hm,w'⟩:=hNx H' nx
        have pin':∀ b ∈ fp,∀ o,s7.heap.get? b=some o->s'.heap.get? b=some o∧H' b=none:=fun b hb o e =>
          let z:=I'.pin (b,o) (List.mem_append_right _ (List.mem_append_right _ (mem_pinsAt hb e)))
          ⟨z.1,z.2.1⟩
        have hl:(wipe σ (own.map (·.2))).length=σ8.length:=by rw [← hw8,wipe_length]
        refine ⟨m',hm,i + 1,H',(I'.unpinned (pins:=[])).weak hl (fun j v e=>?_),T.keep _ _ _ st7 fun b hb o e=>(pin' b hb o e).1,fun b hb=>?_,w'⟩
        · rw [← hw8] at e
          exact (wipe_some e).1
        · obtain ⟨o,e,_⟩:=T.obj _ _ st7 b hb
          exact (pin' b hb o e).2
      cases b with
      | false =>
        simp only [Bool.false_eq_true,if_false] at q9 ⊢
        exact fin I9 q9
      | true =>
        simp only [if_true] at q9 ⊢
        refine thnF (pe _ s9 σ8 H9 _ I9 q9) fun z s10 ⟨yv,H10,I10,r10,acc,hD10,hz10,nx⟩=>?_
        exact app_ok (X:=X.blk s3 H3 scope ce fp) I10 hD10 hz10 r10 fun s11 I11=>fin I11 nx
  exact codeAny_compStart_list loop (T.self X.A 0 _ _ _ st4 loop)
theorem pe_lc {elt tg iter:Expr}{ifs:List Expr}{scope:Scope}{own:List (Str × Nat)}{pos:Pos}{wi:TI}{g:TG}{tt:TT}{te:TE} (hc:X.calm=true) (hN:X.N.Nodup) (hi:PI X tg iter wi) (ok:BlkOk X.N X.env.scope scope own)
    (hg:∀ (s:Shared) (H:Hp) (C:Addr) (cl:List (Str × Addr)) (fp:List Addr),PG (X.blk s H scope (compEnvC scope cl C X.env) fp) tg g) (ht:∀ (s:Shared) (H:Hp) (C:Addr) (cl:List (Str × Addr)) (fp:List Addr),PTs (X.blk s H scope (compEnvC scope cl C X.env) fp) ifs tt)
    (he:∀ (s:Shared) (H:Hp) (C:Addr) (cl:List (Str × Addr)) (fp:List Addr),PE (X.blk s H scope (compEnvC scope cl C X.env) fp) elt te) (hs:∀ x,foldedSetIterable iter X.env x=pure x:=by intro _; rfl) :
    PE X (.ListComp elt [⟨tg,iter,ifs,0⟩] scope pos) (tLc wi g tt te (own.map (·.2))):=by
  intro pins s σ H Q I h
  rw [eval_ListComp]
  refine lc_core hc hN I hi ok hg ht he hs h fun D C s' m H' I' q hn f=>⟨m,hn,fun h'' sb=>?_⟩
  obtain ⟨f0,f1,f2,f3,f4,f5⟩:=f
  exact ⟨.ref D,H',I'.turned (t':=s'.toks) (fun b o hb e=>(sb.2 b hb).trans e) f0 f1 f3 f4 f5,rfl,q⟩
end
theorem lc_list {K:PySem.W.Frag}{a:Addr}{xs:List V}{g:TG}{tt:TT}{te:TE}{vs:List Nat}{σ:St}{H1:Hp}{D:Addr}{Qd:Hp->Prop} (Pv:Nat->Hp->Prop) (h0:Pv 0 (upd H1 D (.lst []))) (hl:∀ i H,i ≤ xs.length->Pv i H->SqL K H a xs)
    (hs:∀ i x H,xs[i]?=some x->Pv i H->g x (wipe σ vs) H fun σ2 H2=>wipe σ2 vs=wipe σ vs∧tt σ2 H2 fun b H3 =>
      if b=true then te σ2 H3 fun y H4=>∃ acc,H4 D=some (.lst acc)∧acc.length < sizeLine∧Pv (i + 1) (upd H4 D (.lst (acc ++ [y]))) else Pv (i + 1) H3) (hd:∀ H,Pv xs.length H->Qd H) :
    ∃ W:Nat->Nat->Hp->Prop,(∃ m,W 0 m (upd H1 D (.lst [])))∧∀ i m H,W i m H →
      ((Itl K a).stop i H∧Qd H) ∨ ((Itl K a).go i H∧∃ Nx:Hp->Prop,(∀ H',Nx H'->∃ m',m' < m∧W (i + 1) m' H')∧∀ x H',(Itl K a).yld i H x H'->g x (wipe σ vs) H' fun σ2 H2=>wipe σ2 vs=wipe σ vs∧tt σ2 H2 fun b H3 =>
        if b=true then te σ2 H3 fun y H4=>∃ acc,H4 D=some (.lst acc)∧acc.length < sizeLine∧Nx (upd H4 D (.lst (acc ++ [y]))) else Nx H3):=by
  refine ⟨fun i m H=>m=xs.length - i∧i ≤ xs.length∧Pv i H,⟨xs.length,by simp,Nat.zero_le _,h0⟩,?_⟩
  rintro i m H ⟨rfl,hi,p⟩
  have q:=hl i H hi p
  by_cases hlt:i < xs.length
  · refine .inr ⟨⟨xs,xs[i],q,by simp [hlt]⟩,Pv (i + 1),fun H' p'=>⟨xs.length - (i + 1),by omega,rfl,hlt,p'⟩,fun x H' y=>?_⟩
    obtain ⟨e,y⟩:=y
    subst e
    exact hs i x _ (y xs q) p
  · have e:i=xs.length:=by omega
    subst e
    exact .inl ⟨⟨xs,q,Nat.le_refl _⟩,hd H p⟩
def blkC (N:List Str) (sc scope:Scope) (own:List (Str × Nat)):Bool :=
  (match scope.kind with | .function=>true | _=>false) && (scope.names.all fun y=>decide (scope.names.lookup y.1=some y.2)) && (own.all fun p=>decide (N[p.2]?=some p.1)) &&
    (scope.names.all fun y=>match y.2 with
      | .free=>(match sc.names.lookup y.1 with | some .cell=>true | some .free=>true | _=>false)
      | .local=>decide (y.1 ∈ own.map (·.1)) || decide (y.1 ∉ N)
      | .cell=>decide (y.1 ∈ own.map (·.1)) || decide (y.1 ∉ N)
      | _=>true)
theorem blkOk_by {N:List Str}{sc scope:Scope}{own:List (Str × Nat)} (h:blkC N sc scope own=true):BlkOk N sc scope own:=by
  unfold blkC at h
  simp only [Bool.and_eq_true,List.all_eq_true,decide_eq_true_eq] at h
  obtain ⟨⟨⟨h1,h2⟩,h3⟩,h4⟩:=h
  refine ⟨?_,h2,h3,fun y hy e=>?_,fun y hy e=>?_⟩
  · split at h1
    · assumption
    · cases h1
  · have q:=h4 y hy
    simp only [e] at q
    split at q <;> first | exact .inl (by assumption) | exact .inr (by assumption) | cases q
  · have q:=h4 y hy
    rcases e with e | e <;> (simp only [e,Bool.or_eq_true,decide_eq_true_eq] at q; exact q)
end L2
namespace L2
open PySem PySem.Spec PyProof.Rows
section
variable {prog:Program}{w:World}{A:Around}{R:Result->Shared->Prop}{s:Shared}{elt t0 i0 t1 i1:Expr}{ifs0 ifs1:List Expr}{scope:Scope}{pos:Pos}{it acc:Value}{env:Env}
end
section
variable {X:Cx}
end
end L2
namespace L2
open PySem PySem.Spec PyProof.Rows
section
variable {κ:Type} [DecidableEq κ]
def valV (kvs:List (κ × V)) (k:κ):Option V:=(kvs.find? fun kv=>decide (kv.1=k)).map (·.2)
def putK (kvs:List (κ × V)) (k:κ) (v:V):List (κ × V) :=
  if (kvs.any fun kv=>decide (kv.1=k))=true then kvs.map (fun kv=>if kv.1=k then (kv.1,v) else kv) else kvs ++ [(k,v)]
theorem valV_nil {k:κ}:valV ([]:List (κ × V)) k=none:=rfl
theorem valV_pos {p:κ × V}{r:List (κ × V)}{k:κ} (e:p.1=k):valV (p :: r) k=some p.2:=by simp [valV,List.find?_cons,e]
theorem valV_neg {p:κ × V}{r:List (κ × V)}{k:κ} (e:¬ p.1=k):valV (p :: r) k=valV r k:=by simp [valV,List.find?_cons,e]
theorem valV_any (k:κ):∀ kvs:List (κ × V),(kvs.any fun kv=>decide (kv.1=k))=(valV kvs k).isSome
  | []=>rfl
  | p :: r=>by
    rw [List.any_cons]
    by_cases e:p.1=k
    · simp only [valV_pos e,decide_eq_true e,Bool.true_or,Option.isSome_some]
    · rw [valV_neg e,decide_eq_false e,Bool.false_or]; exact valV_any k r
theorem valV_map (k j:κ) (y:V):∀ kvs:List (κ × V),valV (kvs.map fun kv=>if kv.1=k then (kv.1,y) else kv) j=(valV kvs j).map fun x=>if j=k then y else x
  | []=>rfl
  | p :: r=>by
    have ih:=valV_map k j y r
    rw [List.map_cons]
    by_cases h:p.1=k
    · rw [if_pos h]
      by_cases e:p.1=j
      · rw [valV_pos (p:=(p.1,y)) e,valV_pos e,Option.map_some,if_pos (e.symm.trans h)]
      · rw [valV_neg (p:=(p.1,y)) e,valV_neg e,ih]
    · rw [if_neg h]
      by_cases e:p.1=j
      · rw [valV_pos (p:=p) e,valV_pos e,Option.map_some,if_neg (fun z=>h (e.trans z))]
      · rw [valV_neg (p:=p) e,valV_neg e,ih]
theorem valV_snoc (k j:κ) (y:V):∀ kvs:List (κ × V),valV kvs k=none->valV (kvs ++ [(k,y)]) j=if j=k then some y else valV kvs j
  | [],_=>by
    by_cases e:k=j
    · rw [if_pos e.symm]; exact valV_pos (p:=(k,y)) e
    · rw [if_neg (fun z=>e z.symm)]; exact valV_neg (p:=(k,y)) e
  | p :: r,hn=>by
    rw [List.cons_append]
    have hk:¬ p.1=k:=fun z=>by rw [valV_pos z] at hn; cases hn
    rw [valV_neg hk] at hn
    have ih:=valV_snoc k j y r hn
    by_cases e:p.1=j
    · rw [valV_pos e,valV_pos e,if_neg (fun z=>hk (e.trans z))]
    · rw [valV_neg e,valV_neg e,ih]
theorem valV_put (kvs:List (κ × V)) (k j:κ) (y:V):valV (putK kvs k y) j=if j=k then some y else valV kvs j:=by
  unfold putK
  by_cases a:(kvs.any fun kv=>decide (kv.1=k))=true
  · rw [if_pos a,valV_map]
    rw [valV_any] at a
    by_cases e:j=k
    · obtain ⟨x,hx⟩:=Option.isSome_iff_exists.mp a
      rw [if_pos e,e,hx,Option.map_some,if_pos rfl]
    · rw [if_neg e]
      cases valV kvs j with
      | none=>rfl
      | some x=>rw [Option.map_some,if_neg e]
  · rw [if_neg a]
    refine valV_snoc k j y kvs ?_
    rw [valV_any] at a
    cases q:valV kvs k with
    | none=>rfl
    | some x=>rw [q] at a; exact (a rfl).elim
theorem length_putK (kvs:List (κ × V)) (k:κ) (v:V):(putK kvs k v).length ≤ kvs.length + 1:=by
  unfold putK
  split
  · rw [List.length_map]; omega
  · rw [List.length_append,List.length_cons,List.length_nil]; omega
theorem putK_new {kvs:List (κ × V)}{k:κ} (v:V) (h:valV kvs k=none):putK kvs k v=kvs ++ [(k,v)]:=by
  unfold putK
  rw [valV_any,h]
  exact if_neg (by decide)
theorem RelO.isSome_eq {o:Option V}{u:Option Value} (r:RelO o u):o.isSome=u.isSome:=by
  cases o with
  | none=>cases u with
    | none=>rfl
    | some _=>exact (show False from r).elim
  | some _=>cases u with
    | none=>exact (show False from r).elim
    | some _=>rfl
theorem KV.val {kvs:List (κ × V)}{vs:List (κ × Value)} (r:KV kvs vs) (k:κ):RelO (valV kvs k) (valueAt vs k):=by
  unfold KV at r
  induction r with
  | nil=>exact True.intro
  | @cons p q ps qs h t ih =>
    obtain ⟨h1,h2⟩:=h
    by_cases e:p.1=k
    · have e':q.1=k:=h1.symm.trans e
      have b:valueAt (q :: qs) k=some q.2:=by simp [valueAt,List.find?_cons,e']
      rw [valV_pos e,b]; exact h2
    · have e':¬ q.1=k:=fun z=>e (h1.trans z)
      have b:valueAt (q :: qs) k=valueAt qs k:=by simp [valueAt,List.find?_cons,e']
      rw [valV_neg e,b]; exact ih
theorem KV.any {kvs:List (κ × V)}{vs:List (κ × Value)} (r:KV kvs vs) (k:κ):(kvs.any fun kv=>decide (kv.1=k))=vs.any fun kv=>decide (kv.1=k):=by
  unfold KV at r
  induction r with
  | nil=>rfl
  | cons h t ih=>rw [List.any_cons,List.any_cons,ih,h.1]
theorem KV.repl {kvs:List (κ × V)}{vs:List (κ × Value)} (r:KV kvs vs) (k:κ) {y:V}{u:Value} (ry:RelV y u) :
    KV (kvs.map fun kv=>if kv.1=k then (kv.1,y) else kv) (vs.map fun kv=>if kv.1=k then (kv.1,u) else kv):=by
  unfold KV at r ⊢
  induction r with
  | nil=>exact .nil
  | @cons p q ps qs h t ih =>
    rw [List.map_cons,List.map_cons]
    refine .cons ?_ ih
    obtain ⟨h1,h2⟩:=h
    by_cases e:p.1=k
    · rw [if_pos e,if_pos (h1.symm.trans e)]; exact ⟨h1,ry⟩
    · rw [if_neg e,if_neg (fun z=>e (h1.trans z))]; exact ⟨h1,h2⟩
theorem KV.put {kvs:List (κ × V)}{vs:List (κ × Value)} (r:KV kvs vs) (k:κ) {y:V}{u:Value} (ry:RelV y u):KV (putK kvs k y) (stored vs k u):=by
  unfold putK stored
  rw [r.any k]
  by_cases e:(vs.any fun kv=>decide (kv.1=k))=true
  · rw [if_pos e,if_pos e]; exact r.repl k ry
  · rw [if_neg e,if_neg e]; exact Paired.snoc r ⟨rfl,ry⟩
theorem KV.length {kvs:List (κ × V)}{vs:List (κ × Value)} (r:KV kvs vs):kvs.length=vs.length:=Paired.length r
end
theorem kV_is {P:Program}{w:World}{k:Key}{u:Value} (r:RelV (kV k) u):(mixKind P w).is k u=true:=by
  cases k with
  | inl i=>obtain ⟨t,e⟩:=(show ∃ t,u=Value.int i t from r); subst e; exact mixKind_int P w i t
  | inr x=>obtain ⟨t,e⟩:=(show ∃ t,u=Value.str x t from r); subst e; exact mixKind_str P w x t
theorem items_are {P:Program}{w:World}:∀ {ks:List Key}{us:List Value},Vals (ks.map kV) us->ItemsAre (mixKind P w) ks us
  | [],_,r=>by rw [List.map_nil] at r; cases r; exact .nil
  | k :: ks,_,r=>by
    rw [List.map_cons] at r
    cases r with
    | cons h t=>exact .cons (kV_is h) (items_are t)
abbrev KT (H:Hp):List (List Key × V)->List (List Key × Addr × Value)->Prop:=Paired fun p q=>p.1=q.1∧H q.2.1=some (.tup (p.1.map kV))∧RelV p.2 q.2.2
theorem KT.val {H:Hp}{kvs:List (List Key × V)}{xs:List (List Key × Addr × Value)} (r:KT H kvs xs) (k:List Key):RelO (valV kvs k) ((atKey xs k).map (·.2)):=by
  induction r with
  | nil=>exact True.intro
  | @cons p q ps qs h t ih =>
    obtain ⟨h1,_,h2⟩:=h
    by_cases e:p.1=k
    · have e':q.1=k:=h1.symm.trans e
      have b:atKey (q :: qs) k=some q.2:=by simp [atKey,List.find?_cons,e']
      rw [valV_pos e,b]; exact h2
    · have e':¬ q.1=k:=fun z=>e (h1.trans z)
      have b:atKey (q :: qs) k=atKey qs k:=by simp [atKey,List.find?_cons,e']
      rw [valV_neg e,b]; exact ih
theorem KT.repl {H:Hp}{kvs:List (List Key × V)}{xs:List (List Key × Addr × Value)} (r:KT H kvs xs) (k:List Key) {y:V}{u:Value} (ry:RelV y u) :
    KT H (kvs.map fun kv=>if kv.1=k then (kv.1,y) else kv) (xs.map (putAt k u)):=by
  induction r with
  | nil=>exact .nil
  | @cons p q ps qs h t ih =>
    rw [List.map_cons,List.map_cons]
    refine .cons ?_ ih
    obtain ⟨h1,h2,h3⟩:=h
    unfold putAt
    by_cases e:p.1=k
    · rw [if_pos e,if_pos (h1.symm.trans e)]; exact ⟨h1,h2,ry⟩
    · rw [if_neg e,if_neg (fun z=>e (h1.trans z))]; exact ⟨h1,h2,h3⟩
theorem KT.put {H:Hp}{kvs:List (List Key × V)}{xs:List (List Key × Addr × Value)} (r:KT H kvs xs) (k:List Key) {b:Addr}{y:V}{u:Value} (hb:H b=some (.tup (k.map kV))) (ry:RelV y u) :
    KT H (putK kvs k y) (storedH xs k b u):=by
  have e:(kvs.any fun kv=>decide (kv.1=k))=(atKey xs k).isSome:=by
    rw [valV_any,(r.val k).isSome_eq,Option.isSome_map]
  unfold putK storedH
  rw [e]
  by_cases q:(atKey xs k).isSome=true
  · rw [if_pos q,if_pos q]; exact r.repl k ry
  · rw [if_neg q,if_neg q]; exact Paired.snoc r ⟨rfl,hb,ry⟩
theorem KT.keeps {H H':Hp}{kvs:List (List Key × V)}{xs:List (List Key × Addr × Value)} (r:KT H kvs xs) (ht:∀ b ys,H b=some (.tup ys)->H' b=some (.tup ys)):KT H' kvs xs :=
  Paired.mapP r fun _ _ z=>⟨z.1,ht _ _ z.2.1,z.2.2⟩
section
variable {P:Program}{w:World}{H:Hp}{h:Heap}{a:Addr}
theorem rd_of {u:HO} (ok:HOk P w H h) (e:Rd H a u):ObjOk P w H h a u:=e.ok ok
theorem dk_rd {kvs:List (Key × V)} (ok:HOk P w H h) (e:Rd H a (.dK kvs)):kvs.length ≤ sizeLine∧(a == sysModules)=false∧∃ vs,KV kvs vs∧h.DictOf (mixKind P w) a vs :=
  show ObjOk P w H h a (.dK kvs) from rd_of ok e
theorem dk_of {kvs:List (Key × V)} (ok:HOk P w H h) (e:H a=some (.dK kvs)):kvs.length ≤ sizeLine∧(a == sysModules)=false∧∃ vs,KV kvs vs∧h.DictOf (mixKind P w) a vs:=dk_rd ok (.inl e)
theorem key_of {ks:List Key} (ok:HOk P w H h) (e:H a=some (.tup (ks.map kV))):(tupleKind (mixKind P w)).is h ks a:=by
  obtain ⟨_,its,r,o,h1,h2,n,h3⟩:=(show ObjOk P w H h a (.tup (ks.map kV)) from ok a _ e)
  exact ⟨o,its.toArray,n,h1,h2,h3,by simpa using items_are r⟩
theorem dt_rd {kvs:List (List Key × V)} (ok:HOk P w H h) (e:Rd H a (.dT kvs)):kvs.length ≤ sizeLine∧(a == sysModules)=false ∧
    ∃ xs,KT H kvs xs∧h.DictOfH (tupleKind (mixKind P w)) a xs:=by
  obtain ⟨z,y,xs,r,o,es,ep,h1,h2,h3,h4,h5⟩:=(show ObjOk P w H h a (.dT kvs) from rd_of ok e)
  refine ⟨z,y,xs,r,o,es,ep,h1,h2,h3,h4,fun x hx=>?_,h5⟩
  have all:∀ {l:List (List Key × V)}{m:List (List Key × Addr × Value)},KT H l m->∀ x ∈ m,(tupleKind (mixKind P w)).is h x.1 x.2.1:=by
    intro l m q
    induction q with
    | nil=>intro x hx; exact nomatch hx
    | @cons p q ps qs hq t ih =>
      intro x hx
      rcases List.mem_cons.mp hx with e | hx
      · subst e
        exact key_of ok (by rw [← hq.1]; exact hq.2.1)
      · exact ih x hx
  exact all r x hx
theorem dt_of {kvs:List (List Key × V)} (ok:HOk P w H h) (e:H a=some (.dT kvs)):kvs.length ≤ sizeLine∧(a == sysModules)=false ∧
    ∃ xs,KT H kvs xs∧h.DictOfH (tupleKind (mixKind P w)) a xs:=dt_rd ok (.inl e)
end
def DGet (H:Hp) (a:Addr) (y:V) (r:Option V):Prop :=
  (∃ kvs k,Rd H a (.dK kvs)∧y=kV k∧r=valV kvs k) ∨ ∃ kvs k b,Rd H a (.dT kvs)∧y = .ref b∧H b=some (.tup (k.map kV))∧r=valV kvs k
def DPut (H:Hp) (a:Addr) (y v:V) (H':Hp):Prop :=
  (∃ kvs k,H a=some (.dK kvs)∧y=kV k∧kvs.length < sizeLine∧H'=upd H a (.dK (putK kvs k v))) ∨
  ∃ kvs k b,H a=some (.dT kvs)∧y = .ref b∧H b=some (.tup (k.map kV))∧kvs.length < sizeLine∧H'=upd H a (.dT (putK kvs k v))
theorem DGet.k {H:Hp}{a:Addr}{kvs:List (Key × V)}{k:Key} (e:H a=some (.dK kvs)):DGet H a (kV k) (valV kvs k):=.inl ⟨kvs,k,.inl e,rfl,rfl⟩
theorem DPut.k {H:Hp}{a:Addr}{kvs:List (Key × V)}{k:Key}{v:V} (e:H a=some (.dK kvs)) (hl:kvs.length < sizeLine):DPut H a (kV k) v (upd H a (.dK (putK kvs k v))):=.inl ⟨kvs,k,e,rfl,hl,rfl⟩
section
variable {X:Cx}{pins:List (Addr × Obj)}{σ:St}{H:Hp}{s:Shared}{a:Addr}{y v:V}{u r:Value}{o:Option V}{A:Around}{E:Value->Shared->Prop}
theorem Inv.big (I:Inv X pins σ H s):sysModules < s.heap.objs.size:=by
  have h:mainGlobals < s.heap.objs.size:=(I.mod.glob.keeps I.bk).lt
  exact Nat.lt_trans (by decide) h
theorem d_getItem {Q:Value->Shared->Prop} (hu:A.units + 1 < cLine) (I:Inv X pins σ H s) (g:DGet H a y (some v)) (ry:RelV y u) (h:∀ w' s',Inv X pins σ H s'->RelV v w'->Q w' s') :
    wpAny (model X.prog X.w) A (getItem (.ref a) u) Q E s:=by
  rcases g with ⟨kvs,k,e,ey,l⟩ | ⟨kvs,k,b,e,ey,eb,l⟩
  · subst ey
    obtain ⟨z,hd,vs,rel,dd⟩:=dk_rd I.hok e
    obtain ⟨w',hw,rw'⟩:=RelO.some_of (v:=v) (o:=valueAt vs k) (by rw [l]; exact rel.val k)
    exact wpAny_getItem_of (kV_is ry) dd.mapOf hw (h w' _ (I.tok _) rw')
  · subst ey
    cases (show u=Value.ref b from ry)
    obtain ⟨z,hd,xs,rel,dd⟩:=dt_rd I.hok e
    obtain ⟨w',hw,rw'⟩:=RelO.some_of (v:=v) (o:=(atKey xs k).map (·.2)) (by rw [l]; exact rel.val k)
    obtain ⟨p,hp,hp2⟩:=Option.map_eq_some_iff.mp hw
    refine wpAny_getItem_heap (tupleKind_room_in1 hu) (key_of I.hok eb) dd hp ?_
    rw [hp2]
    exact h w' _ (I.tok _) rw'
theorem d_in {Q:Value->Shared->Prop} (hu:A.units + 1 < cLine) (I:Inv X pins σ H s) (g:DGet H a y o) (ry:RelV y u) (h:∀ s',Inv X pins σ H s'->Q (.bool o.isSome) s') :
    wpAny (model X.prog X.w) A (compareOp .In u (.ref a)) Q E s:=by
  rcases g with ⟨kvs,k,e,ey,l⟩ | ⟨kvs,k,b,e,ey,eb,l⟩
  · subst ey
    obtain ⟨z,hd,vs,rel,dd⟩:=dk_rd I.hok e
    refine wpAny_in_of (kV_is ry) hd dd.mapOf ?_
    rw [← (rel.val k).isSome_eq,← l]
    exact h _ (I.tok _)
  · subst ey
    cases (show u=Value.ref b from ry)
    obtain ⟨z,hd,xs,rel,dd⟩:=dt_rd I.hok e
    refine wpAny_in_heap (tupleKind_room_in1 hu) (key_of I.hok eb) hd dd ?_
    have q:=(rel.val k).isSome_eq
    rw [Option.isSome_map] at q
    rw [← q,← l]
    exact h _ (I.tok _)
theorem d_notIn {Q:Value->Shared->Prop} (hu:A.units + 1 < cLine) (I:Inv X pins σ H s) (g:DGet H a y o) (ry:RelV y u) (h:∀ s',Inv X pins σ H s'->Q (.bool (!o.isSome)) s') :
    wpAny (model X.prog X.w) A (compareOp .NotIn u (.ref a)) Q E s:=by
  rcases g with ⟨kvs,k,e,ey,l⟩ | ⟨kvs,k,b,e,ey,eb,l⟩
  · subst ey
    obtain ⟨z,hd,vs,rel,dd⟩:=dk_rd I.hok e
    refine wpAny_notIn_of (kV_is ry) hd dd.mapOf ?_
    rw [← (rel.val k).isSome_eq,← l]
    exact h _ (I.tok _)
  · subst ey
    cases (show u=Value.ref b from ry)
    obtain ⟨z,hd,xs,rel,dd⟩:=dt_rd I.hok e
    refine wpAny_notIn_heap (tupleKind_room_in1 hu) (key_of I.hok eb) hd dd ?_
    have q:=(rel.val k).isSome_eq
    rw [Option.isSome_map] at q
    rw [← q,← l]
    exact h _ (I.tok _)
theorem d_write {h':Heap}{t':Nat}{ob:HO} (I:Inv X pins σ H s) (mu:Mut (H a)) (hs:Heap.SameBut a s.heap h') (he:∃ q,h'.get? a=some q) (new:ObjOk X.prog X.w (upd H a ob) h' a ob) :
    Inv X pins σ (upd H a ob) { s with heap:=h',toks:=t' } :=
  I.write (x:=a) (e:=a) mu (.inl rfl) (fun b q hb z=>(hs.2 b hb).trans z) he new
theorem dk_new {P:Program}{w:World}{H':Hp}{h':Heap}{kvs:List (Key × V)}{vs:List (Key × Value)} (z:kvs.length ≤ sizeLine) (hd:(a == sysModules)=false) (rel:KV kvs vs) (dd:h'.DictOf (mixKind P w) a vs) :
    ObjOk P w H' h' a (.dK kvs):=⟨z,hd,vs,rel,dd⟩
theorem d_setItem {H':Hp}{Q:Unit->Shared->Prop} (hu:A.units + 1 < cLine) (I:Inv X pins σ H s) (g:DPut H a y v H') (ry:RelV y u) (rv:RelV v r) (h:∀ s',Inv X pins σ H' s'->Q () s') :
    wpAny (model X.prog X.w) A (setItem (.ref a) u r) Q E s:=by
  rcases g with ⟨kvs,k,e,ey,l,eH⟩ | ⟨kvs,k,b,e,ey,eb,l,eH⟩
  · subst ey eH
    obtain ⟨z,hd,vs,rel,dd⟩:=dk_of I.hok e
    have hz:vs.length ≤ sizeLine:=by rw [← rel.length]; exact z
    have hl:(putK kvs k v).length ≤ sizeLine:=by have:=length_putK kvs k v; omega
    refine wpAny_setItem_pairs (hsz:=hz) (kV_is ry) dd fun h' dd' hs=>h _ ?_
    have he:∃ q,h'.get? a=some q:=let ⟨q,_,_,hq,_⟩:=dd'; ⟨q,hq⟩
    exact d_write I (by rw [e]; exact True.intro) hs he (dk_new hl hd (rel.put k rv) dd')
  · subst ey eH
    cases (show u=Value.ref b from ry)
    obtain ⟨z,hd,xs,rel,dd⟩:=dt_of I.hok e
    have hz:xs.length ≤ sizeLine:=by rw [← Paired.length rel]; exact z
    have hl:(putK kvs k v).length ≤ sizeLine:=by have:=length_putK kvs k v; omega
    refine wpAny_setItem_heap (hsz:=hz) (tupleKind_room_in1 hu) (key_of I.hok eb) dd fun h' dd' hs=>h _ ?_
    obtain ⟨q,es,ep,hq,h2,h3,h4,_,h5⟩:=dd'
    refine d_write I (by rw [e]; exact True.intro) hs ⟨q,hq⟩ ⟨hl,hd,_,(rel.put k eb rv).keeps fun c ys ec=>?_,q,es,ep,hq,h2,h3,h4,h5⟩
    rw [upd_ne (ne_of ec e (fun z=>nomatch z))]
    exact ec
end
section
variable {X:Cx}{pins:List (Addr × Obj)}{σ:St}{H:Hp}{s:Shared}{a:Addr}{kvs:List (Key × V)}{k:Key}{u:Value}{A:Around}{E:Value->Shared->Prop}
end
def NoSl (i:Expr):Prop:=∀ ov iv,subscripted i false ov iv=operate [ov,iv] (getItem ov iv)
theorem subD_of {prog:Program}{w:World}{A:Around}{E:Value->Shared->Prop}{s:Shared}{env:Env}{value slice:Expr}{pos:Pos}{T id:String}{Q:Value->Shared->Prop}
    (hl:typeLookup (.type T) "__getitem__" = pure (some (.builtin id))) (hs:NoSl slice)
    (h:wpAny (model prog w) A (eval value env) (fun o s₁=>wpAny (model prog w) A (eval slice env) (fun i s₂=>s₂.TypeIs o T∧wpAny (model prog w) A (getItem o i) Q E s₂) E s₁) E s) :
    wpAny (model prog w) A (eval (.Subscript value slice pos) env) Q E s:=by
  refine Subscript_ (wpAny_mono h (fun o s₁ h₁=>wpAny_mono h₁ (fun i s₂ h₂=>?_) fun _ _ x=>x) fun _ _ x=>x)
  obtain ⟨hT,h₂⟩:=h₂
  unfold subscriptTail
  refine wpAny_bind ?_
  rw [getitemInPython_of_ne hT.not_modules]
  refine wpAny_bind (wpAny_specialOf hT hl ?_)
  have fin:wpAny (model prog w) A (subscripted slice false o i) (fun r s₃=>wpAny (model prog w) A (letTemporaryGo value o r >>= fun _=>pure r) Q E s₃) E s₂:=by
    rw [hs o i]
    exact wpAny_operating (wpAny_mono h₂ (fun r s₃ h₃=>wpAny_bind (wpAny_letTemporaryGo (wpAny_pure h₃))) fun _ _ x=>x)
  first
    | exact wpAny_pure (wpAny_bind fin)
    | exact wpAny_bind (wpAny_pure (wpAny_bind fin))
    | exact wpAny_bind fin
theorem dict_typeIs {X:Cx}{pins:List (Addr × Obj)}{σ:St}{H:Hp}{s:Shared}{a:Addr}{y:V}{o:Option V} (I:Inv X pins σ H s) (g:DGet H a y o):s.TypeIs (.ref a) "dict" := by
  rcases g with ⟨kvs,k,e,_,_⟩ | ⟨kvs,k,b,e,_,_,_⟩
  · obtain ⟨_,_,vs,_,dd⟩:=dk_rd I.hok e
    exact dd.typeIs
  · obtain ⟨_,_,xs,_,dd⟩:=dt_rd I.hok e
    exact dd.typeIs
def tDGet (td ty:TE):TE:=fun σ H Q=>td σ H fun x H1=>ty σ H1 fun y H2=>∃ a v,x = .ref a∧DGet H2 a y (some v)∧Q v H2
def tDIn (ty td:TE):TE:=fun σ H Q=>ty σ H fun y H1=>td σ H1 fun x H2=>∃ a o,x = .ref a∧DGet H2 a y o∧Q (.bl o.isSome) H2
def tDNotIn (ty td:TE):TE:=fun σ H Q=>ty σ H fun y H1=>td σ H1 fun x H2=>∃ a o,x = .ref a∧DGet H2 a y o∧Q (.bl (!o.isSome)) H2
def sDPut (td ty tv:TE):TS:=fun D σ H=>tv σ H fun v H1=>td σ H1 fun x H2=>ty σ H2 fun y H3=>∃ a H4,x = .ref a∧DPut H3 a y v H4∧D.nx σ H4
section
variable {X:Cx}{o i e value:Expr}{pos pos' tpos:Pos}{td ty tv:TE}
theorem pe_dget (hu:X.A.units + 1 < cLine) (ho:PE X o td) (hi:PE X i ty) (hs:NoSl i):PE X (.Subscript o i pos) (tDGet td ty):=by
  intro pins s σ H Q I h
  refine subD_of PySem.F.slot_dict_getitem.lookup hs (thn (ho pins s σ H _ I h) fun u s1 ⟨x,H1,I1,rx,q1⟩=>thn (hi pins s1 σ H1 _ I1 q1) fun iv s2 ⟨y,H2,I2,ry,a,v,ex,g,q2⟩=>?_)
  subst ex
  obtain rfl:u=Value.ref a:=rx
  exact ⟨dict_typeIs I2 g,d_getItem hu I2 g ry fun w' s3 I3 rw'=>⟨v,H2,I3,rw',q2⟩⟩
theorem pc_din (hu:X.A.units + 1 < cLine) (hi:PE X i ty) (ho:PE X o td):PC X .In i o (tDIn ty td):=by
  intro pins s σ H Q I h
  refine thn (hi pins s σ H _ I h) fun iv s1 ⟨y,H1,I1,ry,q1⟩=>thn (ho pins s1 σ H1 _ I1 q1) fun u s2 ⟨x,H2,I2,rx,a,ov,ex,g,q2⟩=>?_
  subst ex
  obtain rfl:u=Value.ref a:=rx
  exact d_in hu I2 g ry fun s3 I3=>⟨.bl ov.isSome,H2,I3,rfl,q2⟩
theorem pc_dnotin (hu:X.A.units + 1 < cLine) (hi:PE X i ty) (ho:PE X o td):PC X .NotIn i o (tDNotIn ty td):=by
  intro pins s σ H Q I h
  refine thn (hi pins s σ H _ I h) fun iv s1 ⟨y,H1,I1,ry,q1⟩=>thn (ho pins s1 σ H1 _ I1 q1) fun u s2 ⟨x,H2,I2,rx,a,ov,ex,g,q2⟩=>?_
  subst ex
  obtain rfl:u=Value.ref a:=rx
  exact d_notIn hu I2 g ry fun s3 I3=>⟨.bl (!ov.isSome),H2,I3,rfl,q2⟩
theorem ps_dput (hu:X.A.units + 1 < cLine) (ho:PE X o td) (hi:PE X i ty) (hv:PE X value tv) (hs:swapsWith value (some (.Subscript o i pos')) pos.line X.env=pure false) :
    PS X (.Assign [.Subscript o i pos'] value pos) (sDPut td ty tv):=by
  intro pins s σ H D I h
  refine wpAny_Assign_Subscript (thn (hv pins s σ H _ I h) fun r s1 ⟨v,H1,I1,rv,q1⟩=>thn (ho pins s1 σ H1 _ I1 q1) fun u s2 ⟨x,H2,I2,rx,q2⟩=>thn (hi pins s2 σ H2 _ I2 q2) fun iv s3 ⟨y,H3,I3,ry,a,H4,ex,g,q3⟩=>?_) hs
  subst ex
  obtain rfl:u=Value.ref a:=rx
  exact d_setItem hu I3 g ry rv fun s4 I4=>⟨σ,H4,I4,q3⟩
end
theorem dk_empty {P:Program}{w:World}{H:Hp} (h:Heap) (hb:sysModules < h.objs.size):ObjOk P w H (h.push { cls:=.type "dict",data:=.dict #[] }) h.objs.size (.dK []) :=
  ⟨Nat.zero_le _,beq_eq_false_iff_ne.mpr (Ne.symm (Nat.ne_of_lt hb)),[],.nil,Heap.DictOf.new h⟩
def tDNewK : TE:=fun _ H Q=>∀ p,H p=none->Q (.ref p) (upd H p (.dK []))
section
variable {X:Cx}{pos:Pos}
theorem pe_dnewK : PE X (.Dict [] [] pos) tDNewK:=fun pins s σ H Q I h =>
  wpAny_Dict_empty ⟨.ref s.heap.objs.size,_,I.laid (a:=s.heap.objs.size) (o:=.dK []) (t':=s.toks) (fun _ _ q=>Heap.get?_push_of_some _ q) (Nat.le_refl _) (dk_empty s.heap I.big),rfl,h _ (I.hok.fresh (Nat.le_refl _))⟩
end
section
variable {X:Cx}{pins:List (Addr × Obj)}{σ:St}{H:Hp}{s:Shared}{a:Addr}{y d:V}{u r:Value}{o:Option V}{A:Around}{E:Value->Shared->Prop}
end
section
variable {X:Cx}{o e f:Expr}{apos cpos:Pos}{td ty tx:TE}
end
section
variable {X:Cx}{pins:List (Addr × Obj)}{σ:St}{H:Hp}{s:Shared}{a:Addr}{kvs:List (Key × V)}{A:Around}{E:Value->Shared->Prop}
end
section
variable {X:Cx}{pins:List (Addr × Obj)}{σ:St}{H:Hp}{s:Shared}{a:Addr}{y:V}{u:Value}{A:Around}{E:Value->Shared->Prop}
end
end L2
namespace L2
open PySem PySem.Spec PyProof.Rows
section
variable {prog:Program}{w:World}{A:Around}{E:Value->Shared->Prop}
end
section
variable {X:Cx}
end
end L2
namespace L2
open PySem PySem.Spec PyProof.Rows
section
variable {X:Cx}{pins:List (Addr × Obj)}{σ:St}{H:Hp}{s:Shared}{h':Heap}
theorem Inv.turnedL {t':Nat}{ch:List Addr} (I:Inv X pins σ H s) (k:∀ b o,b ∉ ch->s.heap.get? b=some o->h'.get? b=some o) (hf:∀ b ∈ ch,FpOk X pins H b):Inv X pins σ H { s with heap:=h',toks:=t' }:=by
  have nit:∀ b u,H b=some u->b ∉ ch:=fun b u e z=>by
    have q:=(hf b z).1
    rw [q] at e; cases e
  refine I.step (g':=s.gens) (d':=s.drawn) (ch:=ch) (fun b hb=>⟨(hf b hb).2.2.2.1,(hf b hb).2.1,(hf b hb).2.2.2.2.1,(hf b hb).2.2.2.2.2⟩) (fun b o _ _ hc e _=>k b o hc e) (fun b o _ _ hc e _=>⟨o.slots,k b o hc e⟩)
    (fun _ _ _ _ n=>n) (fun b o hc e=>⟨o,k b o hc e⟩) (fun _ _ e=>e) (fun _ _ _ e=>e) (fun b ps e=>⟨#[],by rw [e]; simp⟩) (fun m hm=>?_) (fun b u e=>?_) I.bare
  · obtain ⟨o,es,ep,ho,r⟩:=hm
    exact ⟨o,es,ep,k _ o (fun z=>(hf _ z).2.1 rfl) ho,r⟩
  · refine (I.hok b u e).stay (fun c v hc q=>k c v ?_ q) (fun _ q=>q) fun _ _ q=>q
    rcases hc with z | z
    · rw [z]; exact nit b u e
    · exact nit c _ z
theorem Inv.turnedNew {t':Nat}{ch:List Addr}{T:Addr}{ob:HO} (I:Inv X pins σ H s) (k:∀ b o,b ∉ ch->s.heap.get? b=some o->h'.get? b=some o) (hf:∀ b ∈ ch,FpOk X pins H b) (hT:s.heap.objs.size ≤ T)
    (new:ObjOk X.prog X.w (upd H T ob) h' T ob):Inv X pins σ (upd H T ob) { s with heap:=h',toks:=t' }:=by
  have hn:H T=none:=I.hok.fresh hT
  have nit:∀ b u,H b=some u->b ∉ ch:=fun b u e z=>by
    have q:=(hf b z).1
    rw [q] at e; cases e
  refine I.step (g':=s.gens) (d':=s.drawn) (ch:=ch) (fun b hb=>⟨(hf b hb).2.2.2.1,(hf b hb).2.1,(hf b hb).2.2.2.2.1,(hf b hb).2.2.2.2.2⟩) (fun b o _ _ hc e _=>k b o hc e) (fun b o _ _ hc e _=>⟨o.slots,k b o hc e⟩)
    (fun b o _ e n=>?_) (fun b o hc e=>⟨o,k b o hc e⟩) (fun b xs e=>?_) (fun b o u e=>?_) (fun b ps e=>⟨#[],?_⟩) (fun m hm=>?_) (fun b u e=>?_) I.bare
  · rw [upd_ne (Nat.ne_of_lt (Nat.lt_of_lt_of_le (Heap.lt_size e) hT))]; exact n
  · rw [upd_ne (ne_of_none e hn)]; exact e
  · rw [upd_ne (ne_of_none e hn)]; exact e
  · rw [upd_ne (ne_of_none e hn),e]; simp
  · obtain ⟨o,es,ep,ho,r⟩:=hm
    exact ⟨o,es,ep,k _ o (fun z=>(hf _ z).2.1 rfl) ho,r⟩
  · by_cases hb:b=T
    · subst hb
      rw [upd_same] at e
      cases e
      exact new
    · rw [upd_ne hb] at e
      refine (I.hok b u e).stay (fun c v hc q=>k c v ?_ q) (fun c q=>by rw [upd_ne (ne_of_none q hn)]; exact q) fun c xs q=>by rw [upd_ne (ne_of_none q hn)]; exact q
      rcases hc with z | z
      · rw [z]; exact nit b u e
      · exact nit c _ z
end
section
variable {X:Cx}
end
section
variable {X:Cx}{tg:Expr}
end
section
variable {X:Cx}{tg:Expr}
end
section
variable {prog:Program}{w:World}{A:Around}{E:Value->Shared->Prop}{s:Shared}
end
section
variable {X:Cx}{pins:List (Addr × Obj)}{σ:St}{H:Hp}{s:Shared}{d:Addr}{o:Obj}
end
section
variable {P:Program}{w:World}{K:PySem.W.Frag}{tg:Expr}{d:Addr}{o:Obj}{es:Array DictEntry}{ep:Nat}
end
section
variable {X:Cx}{tg e:Expr}{td:TE}{apos cpos:Pos}
end
def Ite (K:PySem.W.Frag) (a:Addr):It :=
  ⟨fun i H=>∃ (xs:List V) (x:V),SqL K H a xs∧xs[i]?=some x,fun i H v H'=>∃ T x,v = .ref T∧H T=none∧H'=upd H T (.tup [.int (i:Nat),x])∧∀ xs,SqL K H a xs->xs[i]?=some x,fun i H=>∃ xs:List V,SqL K H a xs∧xs.length ≤ i⟩
theorem turn_enum {P:Program}{w:World}{K:PySem.W.Frag}{elts:List Expr}{kk:Nat}{tpos:Pos} (a e it:Addr) :
    Turn P w K (.Tuple elts kk tpos) (Ite K a) [e,it] e (fun i h=>(∃ old,IsEnum h e it ((i:Nat):Int) old)∧h.IsListIter it a i∧e ≠ it) where
  mem:=by simp
  obj:=fun i h st b hb=>by
    obtain ⟨⟨old,he⟩,⟨o,ho,hc,hd⟩,_⟩:=st
    have e':b=e ∨ b=it:=by simpa using hb
    rcases e' with z | z
    · rw [z]; exact ⟨_,he,fun v q=>nomatch q⟩
    · rw [z]; exact ⟨o,ho,fun v q=>by rw [hd] at q; cases q⟩
  keep:=fun i h h' st k=>let ⟨⟨old,he⟩,hi,hne⟩:=st; ⟨⟨old,k e (by simp) _ he⟩,hi.at fun o q=>k it (by simp) o q,hne⟩
  item:=by
    intro X hP hw hK hc i pins s σ H E I hf st hg
    subst hP hw hK
    obtain ⟨⟨old,he⟩,hit,hne⟩:=st
    obtain ⟨xs,x,hq,hx⟩:=hg
    obtain ⟨its,rv,p,hz⟩:=I.list hq
    obtain ⟨u,hu,ru⟩:=rv.get hx
    have hel:e < s.heap.objs.size:=Heap.lt_size he
    have hil:it < s.heap.objs.size:=by obtain ⟨_,q,_⟩:=hit; exact Heap.lt_size q
    refine wpAny_pyNext_enum_item he hit p.isList (x:=u) (by simpa using hu) hne fun h' ho hit' hT hsz hk=>?_
    refine ⟨_,rfl,wpAny_letOwnedTupleGo_enum (s:={ s with heap:=h',toks:=s.toks + 1 }) ho fun h'' he' sb=>?_⟩
    have hT2:h''.get? s.heap.objs.size=some { cls:=.type "tuple",data:=.seq #[.int i s.toks,u] }:=(sb.2 _ (Nat.ne_of_gt hel)).trans hT
    have new:ObjOk X.prog X.w (upd H s.heap.objs.size (.tup [.int (i:Nat),x])) h'' s.heap.objs.size (.tup [.int (i:Nat),x]) :=
      ⟨by show 2 ≤ sizeLine; decide,[.int i s.toks,u],.cons ⟨_,rfl⟩ (.cons ru .nil),⟨_,hT2,rfl,_,rfl⟩⟩
    have I1:Inv X pins σ (upd H s.heap.objs.size (.tup [.int (i:Nat),x])) { s with heap:=h'',toks:=s.toks + 1 } :=
      I.turnedNew (ch:=[e,it]) (fun b ob hb q=>(sb.2 b (fun z=>hb (by simp [z]))).trans (hk b ob (fun z=>hb (by simp [z])) (fun z=>hb (by simp [z])) q)) hf (Nat.le_refl _) new
    refine ⟨.ref s.heap.objs.size,_,I1,rfl,⟨_,x,rfl,I.hok.fresh (Nat.le_refl _),rfl,fun ys hy=>by rw [I.list_inj hy hq]; exact hx⟩,⟨⟨u,?_⟩,hit'.at fun o q=>(sb.2 it (Ne.symm hne)).trans q,hne⟩,fun b hb=>?_⟩
    · have e1:((i + 1:Nat):Int)=(i:Int) + 1:=by omega
      rw [e1]; exact he'
    · have hb':b < s.heap.objs.size:=by
        have e':b=e ∨ b=it:=by simpa using hb
        rcases e' with z | z
        · rw [z]; exact hel
        · rw [z]; exact hil
      rw [upd_ne (Nat.ne_of_lt hb')]
      exact (hf b hb).1
  done:=by
    intro X hP hw hK hc i pins s σ H E I hf st hg
    subst hP hw hK
    obtain ⟨⟨old,he⟩,hit,hne⟩:=st
    obtain ⟨xs,hq,hx⟩:=hg
    obtain ⟨its,rv,p,hz⟩:=I.list hq
    obtain ⟨f0,f1,f2,f3,f4,f5⟩:=hf it (by simp)
    have hl:=rv.length
    exact wpAny_pyNext_enum_end (I.ok.hd hc) he hit p.isList (by simp; omega) fun h' eb=>⟨rfl,I.turned (t':=s.toks) (fun b o hb q=>eb b o hb q) f0 f1 f3 f4 f5⟩
  self:=fun A i s Q E st h=>let ⟨⟨_,he⟩,_⟩:=st; wpAny_pyIter_enum he h
def iEnum (K:PySem.W.Frag) (ta:TA):TI:=fun σ H R=>ta σ H fun vs H1=>∃ a xs,vs=[.ref a]∧SqL K H1 a xs∧R (Ite K a) H1
theorem pi_enum {X:Cx}{e:Expr}{ta:TA}{p pos tpos:Pos}{elts:List Expr}{kk:Nat} (hg:Gl X "enumerate") (hm:X.mg "enumerate" = none) (ha:PA X [e] ta) (hs:starEach [e] X.env=[(false,eval e X.env)]:=by rfl) :
    PI X (.Tuple elts kk tpos) (.Call (.Name "enumerate" p) [e] [] pos) (iEnum X.K ta):=by
  intro pins s σ H R I h
  refine Call_ (ld_blt I hg hm boot_enumerate (PyProof.Rows.callWith_type1 (thn (ha pos pins s σ H _ I h) fun us s1 ⟨vs,H1,I1,r1,q1⟩=>?_) hs rfl))
  obtain ⟨a,xs,ex,hq,q⟩:=q1
  subst ex
  cases r1 with
  | cons r rr =>
    cases rr
    cases r
    obtain ⟨its,rv,p',hz⟩:=I1.list hq
    refine call_enumerate_list p'.isList fun h' he hit hsz hk=>wpAny_pyIter_enum he ?_
    have I2:Inv X pins σ H1 { s1 with heap:=h' }:=I1.kept (t':=s1.toks) hk
    refine ⟨s1.heap.objs.size + 1,[s1.heap.objs.size + 1,s1.heap.objs.size],_,_,H1,rfl,I2,turn_enum a (s1.heap.objs.size + 1) s1.heap.objs.size,⟨⟨.none,he⟩,hit,Nat.succ_ne_self _⟩,fun b hb=>?_,q⟩
    have e':b=s1.heap.objs.size + 1 ∨ b=s1.heap.objs.size:=by simpa using hb
    have hle:s1.heap.objs.size ≤ b:=by
      rcases e' with z | z
      · rw [z]; exact Nat.le_add_right _ _
      · rw [z]; exact Nat.le_refl _
    exact I1.fpOk hle (I1.hok.fresh hle)
theorem boot_zip5 : bootBuiltins "zip" = some (.type "zip"):=by decide +kernel
def Itz (K:PySem.W.Frag) (a b:Addr):It :=
  ⟨fun i H=>∃ (xs ys:List V) (x y:V),SqL K H a xs∧SqL K H b ys∧xs[i]?=some x∧ys[i]?=some y,
    fun i H v H'=>∃ T x y,v = .ref T∧H T=none∧H'=upd H T (.tup [x,y])∧(∀ xs,SqL K H a xs->xs[i]?=some x)∧∀ ys,SqL K H b ys->ys[i]?=some y,
    fun i H=>∃ xs ys:List V,SqL K H a xs∧SqL K H b ys∧(xs.length ≤ i ∨ ys.length ≤ i)⟩
theorem turn_zip {P:Program}{w:World}{K:PySem.W.Frag}{elts:List Expr}{kk:Nat}{tpos:Pos}{a b z TI TO i1 i2:Addr} (D:ZipApart z TI TO i1 i2 a b) :
    Turn P w K (.Tuple elts kk tpos) (Itz K a b) [z,TI,TO,i1,i2] z (fun i h=>IsZip h z TI TO .none∧IsPair h TI (.ref i1) (.ref i2)∧(∃ x y,IsPair h TO x y)∧h.IsListIter i1 a i∧h.IsListIter i2 b i) where
  mem:=by simp
  obj:=fun i h st c hc=>by
    obtain ⟨hz,hTI,⟨x,y,hTO⟩,⟨o1,e1,_,d1⟩,⟨o2,e2,_,d2⟩⟩:=st
    have e':c=z ∨ c=TI ∨ c=TO ∨ c=i1 ∨ c=i2:=by simpa using hc
    rcases e' with q | q | q | q | q
    · rw [q]; exact ⟨_,hz,fun v q=>nomatch q⟩
    · rw [q]; exact ⟨_,hTI,fun v q=>nomatch q⟩
    · rw [q]; exact ⟨_,hTO,fun v q=>nomatch q⟩
    · rw [q]; exact ⟨o1,e1,fun v q=>by rw [d1] at q; cases q⟩
    · rw [q]; exact ⟨o2,e2,fun v q=>by rw [d2] at q; cases q⟩
  keep:=fun i h h' st k=>by
    obtain ⟨hz,hTI,⟨x,y,hTO⟩,h1,h2⟩:=st
    exact ⟨k z (by simp) _ hz,k TI (by simp) _ hTI,⟨x,y,k TO (by simp) _ hTO⟩,h1.at fun o q=>k i1 (by simp) o q,h2.at fun o q=>k i2 (by simp) o q⟩
  item:=by
    intro X hP hw hK hc i pins s σ H E I hf st hg
    subst hP hw hK
    obtain ⟨hz,hTI,⟨x0,y0,hTO⟩,h1,h2⟩:=st
    obtain ⟨xs,ys,x,y,hqx,hqy,hx,hy⟩:=hg
    obtain ⟨its,rv,p,_⟩:=I.list hqx
    obtain ⟨its2,rv2,p2,_⟩:=I.list hqy
    obtain ⟨u,hu,ru⟩:=rv.get hx
    obtain ⟨u2,hu2,ru2⟩:=rv2.get hy
    have hzl:z < s.heap.objs.size:=Heap.lt_size hz
    refine wpAny_pyNext_zip_item D hz hTI hTO h1 h2 p.isList p2.isList (x:=u) (y:=u2) (by simpa using hu) (by simpa using hu2) fun h' z' TO' h1' h2' hT hsz hk=>?_
    refine ⟨_,rfl,wpAny_letOwnedTupleGo_zip (s:={ s with heap:=h' }) z' fun h'' z'' sb=>?_⟩
    have hT2:h''.get? s.heap.objs.size=some { cls:=.type "tuple",data:=.seq #[u,u2] }:=(sb.2 _ (Nat.ne_of_gt hzl)).trans hT
    have new:ObjOk X.prog X.w (upd H s.heap.objs.size (.tup [x,y])) h'' s.heap.objs.size (.tup [x,y]) :=
      ⟨by show 2 ≤ sizeLine; decide,[u,u2],.cons ru (.cons ru2 .nil),⟨_,hT2,rfl,_,rfl⟩⟩
    have I1:Inv X pins σ (upd H s.heap.objs.size (.tup [x,y])) { s with heap:=h'' } :=
      I.turnedNew (t':=s.toks) (ch:=[z,TI,TO,i1,i2]) (fun c o hb q=>(sb.2 c (fun q'=>hb (by simp [q']))).trans (hk c o (fun q'=>hb (by simp [q'])) (fun q'=>hb (by simp [q'])) (fun q'=>hb (by simp [q'])) (fun q'=>hb (by simp [q'])) q)) hf (Nat.le_refl _) new
    refine ⟨.ref s.heap.objs.size,_,I1,rfl,⟨_,x,y,rfl,I.hok.fresh (Nat.le_refl _),rfl,fun l hl=>by rw [I.list_inj hl hqx]; exact hx,fun l hl=>by rw [I.list_inj hl hqy]; exact hy⟩,⟨z'',?_,⟨u,u2,?_⟩,?_,?_⟩,fun c hcm=>?_⟩
    · exact (sb.2 _ D.TIz).trans (hk _ _ D.TIz D.TITO D.TIi1 D.TIi2 hTI)
    · exact (sb.2 _ D.TOz).trans TO'
    · exact h1'.at fun o q=>(sb.2 _ D.i1z).trans q
    · exact h2'.at fun o q=>(sb.2 _ D.i2z).trans q
    · have hlt:c < s.heap.objs.size:=by
        have e':c=z ∨ c=TI ∨ c=TO ∨ c=i1 ∨ c=i2:=by simpa using hcm
        rcases e' with q | q | q | q | q
        · rw [q]; exact hzl
        · rw [q]; exact Heap.lt_size hTI
        · rw [q]; exact Heap.lt_size hTO
        · rw [q]; obtain ⟨_,e1,_⟩:=h1; exact Heap.lt_size e1
        · rw [q]; obtain ⟨_,e2,_⟩:=h2; exact Heap.lt_size e2
      rw [upd_ne (Nat.ne_of_lt hlt)]
      exact (hf c hcm).1
  done:=by
    intro X hP hw hK hc i pins s σ H E I hf st hg
    subst hP hw hK
    obtain ⟨hz,hTI,⟨x0,y0,hTO⟩,h1,h2⟩:=st
    obtain ⟨xs,ys,hqx,hqy,hend⟩:=hg
    obtain ⟨its,rv,p,_⟩:=I.list hqx
    obtain ⟨its2,rv2,p2,_⟩:=I.list hqy
    have l1:=rv.length
    have l2:=rv2.length
    have he:its.toArray[i]?=none ∨ its2.toArray[i]?=none:=by
      rcases hend with q | q
      · exact .inl (by simp; omega)
      · exact .inr (by simp; omega)
    exact wpAny_pyNext_zip_end (I.ok.hd hc) D hz hTI hTO h1 h2 p.isList p2.isList he fun h' hk=>⟨rfl,I.turnedL (t':=s.toks) (ch:=[z,TI,TO,i1,i2]) (fun c o hb q =>
      hk c o (fun q'=>hb (by simp [q'])) (fun q'=>hb (by simp [q'])) (fun q'=>hb (by simp [q'])) (fun q'=>hb (by simp [q'])) q) hf⟩
  self:=fun A i s Q E st h=>wpAny_pyIter_zip st.1 h
def iZip (K:PySem.W.Frag) (ta:TA):TI:=fun σ H R=>ta σ H fun vs H1=>∃ a b xs ys,vs=[.ref a,.ref b]∧SqL K H1 a xs∧SqL K H1 b ys∧R (Itz K a b) H1
theorem pi_zip {X:Cx}{e e2:Expr}{ta:TA}{p pos tpos:Pos}{elts:List Expr}{kk:Nat} (hg:Gl X "zip") (hm:X.mg "zip" = none) (ha:PA X [e,e2] ta)
    (hs:starEach [e,e2] X.env=(false,eval e X.env) :: starEach [e2] X.env:=by rfl) (hpl:(backTo pos (starEach [e2] X.env)).any (·.1)=false:=by rfl) :
    PI X (.Tuple elts kk tpos) (.Call (.Name "zip" p) [e,e2] [] pos) (iZip X.K ta):=by
  intro pins s σ H R I h
  refine Call_ (ld_blt I hg hm boot_zip5 (PyProof.Rows.callWith_type1 (thn (ha pos pins s σ H _ I h) fun us s1 ⟨vs,H1,I1,r1,q1⟩=>?_) hs hpl))
  obtain ⟨a,b,xs,ys,ex,hqx,hqy,q⟩:=q1
  subst ex
  cases r1 with
  | cons r rr =>
    cases rr with
    | cons r' rr =>
      cases rr
      cases r
      cases r'
      obtain ⟨its,rv,p1,_⟩:=I1.list hqx
      obtain ⟨its2,rv2,p2,_⟩:=I1.list hqy
      have la:a < s1.heap.objs.size:=p1.lt
      have lb:b < s1.heap.objs.size:=p2.lt
      refine call_zip_2 p1.isList p2.isList fun h' hz hTI hTO h1 h2 hsz hk=>wpAny_pyIter_zip hz ?_
      have I2:Inv X pins σ H1 { s1 with heap:=h' }:=I1.kept (t':=s1.toks) hk
      refine ⟨s1.heap.objs.size + 4,[s1.heap.objs.size + 4,s1.heap.objs.size + 2,s1.heap.objs.size + 3,s1.heap.objs.size,s1.heap.objs.size + 1],_,_,H1,rfl,I2,turn_zip (PySem.W.ktu_apart s1.heap.objs.size a b la lb),⟨hz,hTI,⟨_,_,hTO⟩,h1,h2⟩,fun c hcm=>?_,q⟩
      have e':c=s1.heap.objs.size + 4 ∨ c=s1.heap.objs.size + 2 ∨ c=s1.heap.objs.size + 3 ∨ c=s1.heap.objs.size ∨ c=s1.heap.objs.size + 1:=by simpa using hcm
      have hle:s1.heap.objs.size ≤ c:=by
        rcases e' with z | z | z | z | z
        · rw [z]; exact Nat.le_add_right _ _
        · rw [z]; exact Nat.le_add_right _ _
        · rw [z]; exact Nat.le_add_right _ _
        · rw [z]; exact Nat.le_refl _
        · rw [z]; exact Nat.le_add_right _ _
      exact I1.fpOk hle (I1.hok.fresh hle)
end L2
section 
namespace Bits
open PySem PyProof.Rows
end Bits
end 
section 
namespace TL
open PySem PySem.Builtin PySem.Builtin.Str PySem.StrLaws
end TL
end 
namespace L2
open PySem PySem.Spec PyProof.Rows
section
variable {X:Cx}{pins:List (Addr × Obj)}{σ:St}{H:Hp}{s:Shared}{Q:VK}
end
section
variable {X:Cx}
end
section
variable {X:Cx}{o e:Expr}{to te:TE}
end
end L2
namespace L2
open PySem PySem.Spec PyProof.Rows
section
variable {X:Cx}
end
end L2
namespace Att
open PySem PySem.W PySem.Calls PyProof.Rows
section
variable {prog:Program}{w:World}{A:Around}{E:Value->Shared->Prop}{s:Shared}{K:Frag}
end
end Att
namespace L2
open PySem PySem.Spec PyProof.Rows
end L2
namespace L2
open PySem PySem.Spec PyProof.Rows
end L2
namespace L2
open PySem PySem.Spec PyProof.Rows
def inClass (s:Stmt) (j:Nat):Stmt:=match s with
  | .ClassDef _ _ _ body _ _ _ _ _ _ _=>body.getD j (.Pass ⟨0,0,0,0⟩)
  | _=>.Pass ⟨0,0,0,0⟩
def defArgs (s:Stmt):Arguments:=match s with
  | .FunctionDef _ a _ _ _ _ _ _ _ _=>a
  | _=>{ posonlyargs:=[],args:=[],vararg:=none,kwonlyargs:=[],kw_defaults:=[],kwarg:=none,defaults:=[] }
def defBody (s:Stmt):List Stmt:=match s with
  | .FunctionDef _ _ b _ _ _ _ _ _ _=>b
  | _=>[]
def defScope (s:Stmt):Scope:=match s with
  | .FunctionDef _ _ _ _ _ _ sc _ _ _=>sc
  | _=>{ kind:=.function,names:=[],isGenerator:=false,isCoroutine:=false }
abbrev CX0 : CXT:=fun _ _ _ _ _ _=>False
abbrev E0 : XK:=fun _ _ _=>False
theorem pass0 {X:Cx}:Passes CX0 X E0:=fun _ _ _ _ _ _ _ h=>h.elim
structure Fun (K:PySem.W.Frag) (x qual:Str) (st:Stmt) (f:Addr) (fd:FuncData):Prop where
  ex:∃ (oc:Value) (od:Option Addr) (kV doc pm:Value) (an:Option Addr) (cdv ct:Value) (osl:Array (Option Value)),
    fd=PySem.W.fnOf x qual (defArgs st) (defBody st) (defScope st) .none kV doc pm an cdv ct∧K.lookup f=some ⟨oc,od,.func fd,osl⟩∧PySem.W.codeIn K cdv qual=true
  kp:PySem.W.keepIn K (.ref f)=true
section
variable {P:Program}{w:World}{K:PySem.W.Frag}{mg:Str->Option Value}{base:Heap}
theorem Fun.ok {x qual:Str}{st:Stmt}{f:Addr}{fd:FuncData}{N ps:List Str}{k:Nat}{sp:Sp} (F:Fun K x qual st f fd) (S:FnScope N ps (defScope st)) (len:∀ vs H Q E,sp vs H Q E->vs.length=ps.length)
    (hbody:∀ (cdv:Value) (A:Around) (outer:List Env) (s:Shared) (H:Hp) (vs:List V) (Q:VK) (E:XK),Room k (A.deeper (envOfC qual (defScope st) s.heap.objs.size f cdv))->sp vs H Q E →
      ∃ t,PSs (cxOf CX0 P w K mg base N qual (defScope st) f cdv A outer s H E).nox (defBody st) t∧t { nx:=fun _ H'=>Q .non H',rt:=Q } (start N vs) H):FnOk P w K mg base CX0 (k + 1) f fd ps sp:=by
  obtain ⟨oc,od,kV,doc,pm,an,cdv,ct,osl,rfl,lk,hcd⟩:=F.ex
  refine fn_of lk hcd S len fun A outer s H vs Q E hr hsp=>?_
  obtain ⟨t,h,q⟩:=hbody cdv A outer s H vs Q E hr hsp
  exact ⟨t,h.nox,q⟩
theorem Fun.binds {x qual:Str}{st:Stmt}{f:Addr}{fd:FuncData}{ps:List Str} (F:Fun K x qual st f fd)
    (h:∀ (kV doc pm:Value) (an:Option Addr) (cdv ct:Value) (us:List Value),us.length=ps.length->bindArgs (PySem.W.fnOf x qual (defArgs st) (defBody st) (defScope st) .none kV doc pm an cdv ct) ⟨us,[]⟩=pure (ps.zip us)):Binds K fd ps []:=by
  obtain ⟨oc,od,kV,doc,pm,an,cdv,ct,osl,rfl,lk,hcd⟩:=F.ex
  exact .all (h kV doc pm an cdv ct)
theorem fun_mk {x qual:Str}{st:Stmt}{f:Addr}{oc:Value}{od an:Option Addr}{osl:Array (Option Value)}{kV doc pm cdv ct:Value} (l:K.lookup f=some ⟨oc,od,.func (PySem.W.fnOf x qual (defArgs st) (defBody st) (defScope st) .none kV doc pm an cdv ct),osl⟩)
    (c:PySem.W.codeIn K cdv qual=true) (k:PySem.W.keepIn K (.ref f)=true):Fun K x qual st f (PySem.W.fnOf x qual (defArgs st) (defBody st) (defScope st) .none kV doc pm an cdv ct):=⟨⟨oc,od,kV,doc,pm,an,cdv,ct,osl,rfl,l,c⟩,k⟩
end
theorem hu_of {A:Around}{k:Nat} (hr:Room k A):A.units + 1 < cLine:=Nat.lt_of_le_of_lt (Nat.add_le_add_left (by decide:1 ≤ 64) _) hr.units
section
variable {X:Cx}
theorem pv (i:Nat) {x:Str}{pos:Pos} (hN:X.N[i]?=some x:=by rfl) (hv:Vis X.env.scope x:=by first | exact Or.inl rfl | exact Or.inr (Or.inl rfl) | exact Or.inr (Or.inr rfl)) (hd:(x == ("__debug__" : Str))=false:=by decide)
    (hcd:(x == ("__classdict__" : Str))=false:=by decide):PE X (.Name x pos) (tVar i):=pe_var hN hv hd hcd
end
theorem iteF {A B:Prop} (h:B):if false=true then A else B:=by
  rw [if_neg Bool.false_ne_true]
  exact h
theorem iteT {A B:Prop} (h:A):if true=true then A else B:=by
  rw [if_pos rfl]
  exact h
theorem ite2 {c A B:Prop} [Decidable c] (h1:c->A) (h2:¬ c->B):if c then A else B:=by
  by_cases h:c
  · rw [if_pos h]
    exact h1 h
  · rw [if_neg h]
    exact h2 h
def Same (H H':Hp):Prop:=∀ b o,H b=some o->H' b=some o
theorem Same.refl (H:Hp):Same H H:=fun _ _ h=>h
theorem Same.trans {H H1 H2:Hp} (a:Same H H1) (b:Same H1 H2):Same H H2:=fun c o h=>b c o (a c o h)
theorem Same.free {H H':Hp} (e:Same H H') {l:Addr} (h:H' l=Option.none):H l=Option.none:=by
  cases q:H l with
  | none=>rfl
  | some o =>
    rw [e l o q] at h
    cases h
theorem Same.seq {K:PySem.W.Frag}{H H':Hp}{a:Addr}{xs:List V} (e:Same H H') (h:SqL K H a xs):SqL K H' a xs:=by
  rcases h with (h | ⟨o,h⟩) | h
  · exact .inl (.inl (e _ _ h))
  · exact .inl (.inr ⟨o,e _ _ h⟩)
  · exact .inr h
section
variable {κ:Type} [DecidableEq κ]
theorem valV_not {kvs:List (κ × V)}{k:κ} (h:valV kvs k=none):¬ k ∈ kvs.map (·.1):=by
  intro m
  obtain ⟨p,hp,e⟩:=List.mem_map.mp m
  have q:(kvs.any fun kv=>decide (kv.1=k))=true:=List.any_eq_true.mpr ⟨p,hp,decide_eq_true e⟩
  rw [valV_any,h] at q
  exact absurd q (by simp)
theorem valV_in {kvs:List (κ × V)}{k:κ}{v:V} (h:valV kvs k=some v):k ∈ kvs.map (·.1):=by
  have q:(kvs.any fun kv=>decide (kv.1=k))=true:=by
    rw [valV_any,h]
    all_goals rfl
  obtain ⟨p,hp,e⟩:=List.any_eq_true.mp q
  exact List.mem_map.mpr ⟨p,hp,of_decide_eq_true e⟩
theorem nd_snoc : ∀ {l:List κ}{k:κ},l.Nodup->¬ k ∈ l->(l ++ [k]).Nodup
  | [],k,_,_=>by simp
  | a :: r,k,h,hk=>by
    obtain ⟨h1,h2⟩:=List.nodup_cons.mp h
    show (a :: (r ++ [k])).Nodup
    refine List.nodup_cons.mpr ⟨fun m=>?_,nd_snoc h2 fun m=>hk (List.mem_cons.mpr (Or.inr m))⟩
    rcases List.mem_append.mp m with q | q
    · exact h1 q
    · exact hk (List.mem_cons.mpr (Or.inl (List.mem_singleton.mp q).symm))
end
theorem at_of {xs:List V}{z:Int}{j:Nat}{v:V} (e:z=(j:Int)) (h:xs[j]?=some v):atI xs z=some v:=by
  rw [e]
  exact atI_nat h
end L2
set_option maxHeartbeats 2000000
namespace L2
open PySem PySem.Spec PyProof.Rows
open PySem.W (WData Codec OpenSpec Well WellAll ReadsW ReadsAllW)
mutual
inductive Dw (K:PySem.W.Frag) (H:Hp):V->WData->Prop
  | non:Dw K H .non .none
  | bl (b:Bool):Dw K H (.bl b) (.bool b)
  | int (i:Int):Dw K H (.int i) (.int i)
  | str (x:Str):Dw K H (.str x) (.str x)
  | byt (b:Array UInt8):Dw K H (.byt b) (.bytes b.toList)
  | lst {a:Addr}{xs:List V}{ds:List WData}:SqL K H a xs->DwAll K H xs ds->Dw K H (.ref a) (.list ds)
  | tup {a:Addr}{xs:List V}{ds:List WData}:SqT K H a xs->DwAll K H xs ds->Dw K H (.ref a) (.tuple ds)
inductive DwAll (K:PySem.W.Frag) (H:Hp):List V->List WData->Prop
  | nil:DwAll K H [] []
  | cons {v:V}{vs:List V}{d:WData}{ds:List WData}:Dw K H v d->DwAll K H vs ds->DwAll K H (v :: vs) (d :: ds)
end
theorem dw_ints {K:PySem.W.Frag}{H:Hp}:∀ ns:List Int,DwAll K H (ns.map V.int) (ns.map WData.int)
  | []=>.nil
  | n :: r=>.cons (.int n) (dw_ints r)
theorem ints_dw {K:PySem.W.Frag}{H:Hp}:∀ (ns:List Int) (xs:List V),DwAll K H xs (ns.map WData.int)->xs=ns.map V.int
  | [],xs,h=>by
    cases h
    rfl
  | n :: r,xs,h=>by
    cases h with
    | cons h1 h2 =>
      cases h1
      rw [ints_dw r _ h2] <;> rfl
section
variable {P:Program}{w:World}{K:PySem.W.Frag}{H:Hp}{h:Heap}{R:PySem.W.WRecords}{cl:Str->Option Addr}
theorem sqL_at {a:Addr}{xs:List V} (hok:HOk P w H h) (KX:K.In h) (q:SqL K H a xs):∃ (its:List Value) (o:Obj) (n:Nat),Vals xs its∧h.get? a=some o∧o.cls = .type "list" ∧ o.data = .seq its.toArray n:=by
  rcases q with q | ⟨o,its,n,e,hc,_,hd,_,hv⟩
  · obtain ⟨_,its,n,hv,e⟩:=(show ObjOk P w H h a (.lst xs) from q.ok hok)
    exact ⟨its,_,n,hv,e,rfl,rfl⟩
  · exact ⟨its.toList,o,n,hv,KX _ _ e,hc,by simp [hd]⟩
theorem sqT_at {a:Addr}{xs:List V} (hok:HOk P w H h) (KX:K.In h) (q:SqT K H a xs):∃ (its:List Value) (o:Obj) (n:Nat),Vals xs its∧h.get? a=some o∧o.cls = .type "tuple" ∧ o.data = .seq its.toArray n:=by
  rcases q with q | ⟨o,its,n,e,hc,hd,_,hv⟩
  · obtain ⟨_,its,hv,o,e,hc,n,hd⟩:=(show ObjOk P w H h a (.tup xs) from q.ok hok)
    exact ⟨its,o,n,hv,e,hc,hd⟩
  · exact ⟨its.toList,o,n,hv,KX _ _ e,hc,by simp [hd]⟩
mutual
theorem Dw.reads (hok:HOk P w H h) (KX:K.In h):∀ (d:WData) (v:V) (u:Value),Dw K H v d->RelV v u->∃ as,ReadsW R cl h u d as
  | .none,_,_,x,r=>by
    cases x
    cases r
    exact ⟨_,ReadsW.none⟩
  | .bool b,_,_,x,r=>by
    cases x
    cases r
    exact ⟨_,ReadsW.bool b⟩
  | .int i,_,_,x,r=>by
    cases x
    obtain ⟨t,rfl⟩:=r
    exact ⟨_,ReadsW.int i t⟩
  | .str s,_,_,x,r=>by
    cases x
    obtain ⟨t,rfl⟩:=r
    exact ⟨_,ReadsW.str s t⟩
  | .bytes b,_,_,x,r=>by
    cases x
    obtain ⟨t,rfl⟩:=r
    exact ⟨_,ReadsW.bytes _ t⟩
  | .list ds,_,_,x,r=>by
    cases x with
    | lst hs ha =>
      cases r
      obtain ⟨its,o,n,rv,ho,hc,hd⟩:=sqL_at hok KX hs
      obtain ⟨as,hr⟩:=Dw.readsAll hok KX ds _ its ha rv
      exact ⟨_,ReadsW.list ho hc hd hr⟩
  | .tuple ds,_,_,x,r=>by
    cases x with
    | tup hs ha =>
      cases r
      obtain ⟨its,o,n,rv,ho,hc,hd⟩:=sqT_at hok KX hs
      obtain ⟨as,hr⟩:=Dw.readsAll hok KX ds _ its ha rv
      exact ⟨_,ReadsW.tuple ho hc hd hr⟩
  | .float _,_,_,x,_=>by cases x
  | .dict _,_,_,x,_=>by cases x
  | .bytearray _,_,_,x,_=>by cases x
  | .set _,_,_,x,_=>by cases x
  | .frozenset _,_,_,x,_=>by cases x
  | .obj _ _,_,_,x,_=>by cases x
theorem Dw.readsAll (hok:HOk P w H h) (KX:K.In h):∀ (ds:List WData) (vs:List V) (us:List Value),DwAll K H vs ds->Vals vs us->∃ as,ReadsAllW R cl h us ds as
  | [],_,_,x,r=>by
    cases x
    cases r
    exact ⟨_,ReadsAllW.nil⟩
  | d :: ds,_,_,x,r=>by
    cases x with
    | cons h1 h2 =>
      cases r with
      | cons r1 r2 =>
        obtain ⟨as,q1⟩:=Dw.reads hok KX d _ _ h1 r1
        obtain ⟨bs,q2⟩:=Dw.readsAll hok KX ds _ _ h2 r2
        exact ⟨_,ReadsAllW.cons q1 q2⟩
end
end
mutual
def plW : WData->Bool
  | .none=>true
  | .bool _=>true
  | .int _=>true
  | .str _=>true
  | .bytes _=>true
  | .list xs=>plWs xs
  | .tuple xs=>plWs xs
  | _=>false
def plWs : List WData->Bool
  | []=>true
  | x :: r=>plW x && plWs r
end
theorem plWs_map {α:Type}{f:α->WData} (h:∀ a,plW (f a)=true):∀ l:List α,plWs (l.map f)=true
  | []=>rfl
  | x :: r=>by
    show (plW (f x) && plWs (r.map f))=true
    rw [h x,plWs_map h r] <;> rfl
theorem pl_enc : ∀ (c:Codec) (a:c.denote),plW (c.enc a)=true
  | .unit,_=>rfl
  | .bool,_=>rfl
  | .int _ _,_=>rfl
  | .nat _ _,_=>rfl
  | .u8,_=>rfl
  | .bytes _ _,_=>rfl
  | .text _ _ _ _,_=>rfl
  | .list _ _ c,a=>plWs_map (fun x=>pl_enc c x) a
  | .pair c d,a=>by
    show (plW (c.enc a.1) && (plW (d.enc a.2) && true))=true
    rw [pl_enc c a.1,pl_enc d a.2] <;> rfl
  | .triple c d e,a=>by
    show (plW (c.enc a.1) && (plW (d.enc a.2.1) && (plW (e.enc a.2.2) && true)))=true
    rw [pl_enc c a.1,pl_enc d a.2.1,pl_enc e a.2.2] <;> rfl
  | .option c,none=>rfl
  | .option c,some x=>pl_enc c x
theorem pl_encAll : ∀ (cs:List Codec) (a:Codec.denoteAll cs),plWs (Codec.encAll cs a)=true
  | [],_=>rfl
  | c :: cs,a=>by
    show (plW (c.enc a.1) && plWs (Codec.encAll cs a.2))=true
    rw [pl_enc c a.1,pl_encAll cs a.2] <;> rfl
theorem weight_mem : ∀ {xs:List WData}{d:WData},d ∈ xs->d.weight ≤ WData.weightAll xs
  | [],d,h=>absurd h (by simp)
  | x :: r,d,h=>by
    show d.weight ≤ x.weight + 1 + WData.weightAll r
    rcases List.mem_cons.mp h with e | m
    · rw [e]
      omega
    · have z:=weight_mem m
      omega
def toV : Value->V
  | .none=>.non
  | .bool b=>.bl b
  | .int i _=>.int i
  | .str x _=>.str x
  | .bytes b _=>.byt b
  | .ref a=>.ref a
  | _=>.non
def OkU (A:List Addr):Value->Prop
  | .none=>True
  | .bool _=>True
  | .int _ _=>True
  | .str _ _=>True
  | .bytes _ _=>True
  | .ref a=>a ∈ A
  | _=>False
theorem OkU.mono {A B:List Addr} (h:∀ a ∈ A,a ∈ B):∀ {u:Value},OkU A u->OkU B u:=fun {u} x=>by
  cases u with
  | ref a=>exact h a x
  | none=>trivial
  | bool b=>trivial
  | int i t=>trivial
  | str s t=>trivial
  | bytes b t=>trivial
  | _=>exact False.elim x
theorem relV_toV {A:List Addr}{u:Value} (x:OkU A u):RelV (toV u) u:=by
  cases u with
  | ref a=>rfl
  | none=>rfl
  | bool b=>rfl
  | int i t=>exact ⟨t,rfl⟩
  | str s t=>exact ⟨t,rfl⟩
  | bytes b t=>exact ⟨t,rfl⟩
  | _=>exact False.elim x
theorem vals_toV {A:List Addr}:∀ {vs:List Value},(∀ u ∈ vs,OkU A u)->Vals (vs.map toV) vs
  | [],_=>.nil
  | u :: r,h=>.cons (relV_toV (h u (List.mem_cons_self ..))) (vals_toV fun x hx=>h x (List.mem_cons_of_mem _ hx))
def ArgOb (h:Heap) (A:List Addr) (a:Addr):Prop:=∃ vs:List Value,vs.length ≤ sizeLine∧(∀ u ∈ vs,OkU A u) ∧
  (h.get? a=some { cls:=.type "list",data:=.seq vs.toArray } ∨ h.get? a=some { cls:=.type "tuple",data:=.seq vs.toArray })
theorem ArgOb.mono {h:Heap}{A B:List Addr}{a:Addr} (k:∀ a ∈ A,a ∈ B) (x:ArgOb h A a):ArgOb h B a:=by
  obtain ⟨vs,h1,h2,h3⟩:=x
  exact ⟨vs,h1,fun u hu=>(h2 u hu).mono k,h3⟩
theorem wellAll_len {P:Params}{h:Heap}:∀ {vs:List Value}{ds:List WData},WellAll P h vs ds->vs.length=ds.length
  | _,_,.nil=>rfl
  | _,_,.cons _ b=>by
    show _ + 1=_ + 1
    rw [wellAll_len b]
theorem well_list {P:Params}{h:Heap}{v:Value}{ds:List WData} (x:Well P h v (.list ds)):∃ (a:Addr) (vs:List Value),v = .ref a∧h.get? a=some { cls:=.type "list",data:=.seq vs.toArray }∧WellAll P h vs ds:=by
  cases x with
  | list ho hall=>exact ⟨_,_,rfl,ho,hall⟩
theorem well_tuple {P:Params}{h:Heap}{v:Value}{ds:List WData} (x:Well P h v (.tuple ds)):∃ (a:Addr) (vs:List Value),v = .ref a∧h.get? a=some { cls:=.type "tuple",data:=.seq vs.toArray }∧WellAll P h vs ds:=by
  cases x with
  | tuple ho hall=>exact ⟨_,_,rfl,ho,hall⟩
theorem well_cons {P:Params}{h:Heap}{us:List Value}{d:WData}{ds:List WData} (x:WellAll P h us (d :: ds)):∃ (v:Value) (vs:List Value),us=v :: vs∧Well P h v d∧WellAll P h vs ds:=by
  cases x with
  | cons a b=>exact ⟨_,_,rfl,a,b⟩
theorem line_of {n:Nat} (h:n ≤ 1048576):n ≤ sizeLine:=Nat.le_trans h (by decide)
section
variable {P:Params}{h:Heap}
mutual
theorem area_one : ∀ (d:WData) (v:Value),Well P h v d->plW d=true->d.weight ≤ 1048576->∃ A:List Addr,OkU A v∧∀ a ∈ A,ArgOb h A a
  | .none,_,x,_,_=>by
    cases x
    exact ⟨[],trivial,fun a m=>absurd m (by simp)⟩
  | .bool b,_,x,_,_=>by
    cases x
    exact ⟨[],trivial,fun a m=>absurd m (by simp)⟩
  | .int i,_,x,_,_=>by
    cases x
    exact ⟨[],trivial,fun a m=>absurd m (by simp)⟩
  | .str s,_,x,_,_=>by
    cases x
    exact ⟨[],trivial,fun a m=>absurd m (by simp)⟩
  | .bytes b,_,x,_,_=>by
    cases x
    exact ⟨[],trivial,fun a m=>absurd m (by simp)⟩
  | .list ds,_,x,p,z=>by
    obtain ⟨a,vs,rfl,ho,hall⟩:=well_list x
    have z2:WData.weightAll ds ≤ 1048576:=z
    obtain ⟨A,h1,h2⟩:=area_all ds _ hall p fun d hd=>Nat.le_trans (weight_mem hd) z2
    have k:∀ b ∈ A,b ∈ a :: A:=fun b hb=>List.mem_cons_of_mem _ hb
    refine ⟨a :: A,List.mem_cons_self ..,fun b hb=>?_⟩
    rcases List.mem_cons.mp hb with e | m
    · rw [e]
      exact ⟨vs,line_of (by rw [wellAll_len hall]; exact Nat.le_trans (PySem.W.length_le_weightAllW ds) z2),fun u hu=>(h1 u hu).mono k,.inl ho⟩
    · exact (h2 b m).mono k
  | .tuple ds,_,x,p,z=>by
    obtain ⟨a,vs,rfl,ho,hall⟩:=well_tuple x
    have z2:WData.weightAll ds ≤ 1048576:=z
    obtain ⟨A,h1,h2⟩:=area_all ds _ hall p fun d hd=>Nat.le_trans (weight_mem hd) z2
    have k:∀ b ∈ A,b ∈ a :: A:=fun b hb=>List.mem_cons_of_mem _ hb
    refine ⟨a :: A,List.mem_cons_self ..,fun b hb=>?_⟩
    rcases List.mem_cons.mp hb with e | m
    · rw [e]
      exact ⟨vs,line_of (by rw [wellAll_len hall]; exact Nat.le_trans (PySem.W.length_le_weightAllW ds) z2),fun u hu=>(h1 u hu).mono k,.inr ho⟩
    · exact (h2 b m).mono k
  | .float _,_,_,p,_=>Bool.noConfusion (show false=true from p)
  | .dict _,_,_,p,_=>Bool.noConfusion (show false=true from p)
  | .bytearray _,_,_,p,_=>Bool.noConfusion (show false=true from p)
  | .set _,_,_,p,_=>Bool.noConfusion (show false=true from p)
  | .frozenset _,_,_,p,_=>Bool.noConfusion (show false=true from p)
  | .obj _ _,_,_,p,_=>Bool.noConfusion (show false=true from p)
theorem area_all : ∀ (ds:List WData) (vs:List Value),WellAll P h vs ds->plWs ds=true->(∀ d ∈ ds,d.weight ≤ 1048576)->∃ A:List Addr,(∀ u ∈ vs,OkU A u)∧∀ a ∈ A,ArgOb h A a
  | [],_,x,_,_=>by
    cases x
    exact ⟨[],fun u m=>absurd m (by simp),fun a m=>absurd m (by simp)⟩
  | d :: ds,_,x,p,z=>by
    obtain ⟨v,vs,rfl,x1,x2⟩:=well_cons x
    have q:plW d=true∧plWs ds=true:=Bool.and_eq_true_iff.mp p
    obtain ⟨A,a1,a2⟩:=area_one d v x1 q.1 (z d (List.mem_cons_self ..))
    obtain ⟨B,b1,b2⟩:=area_all ds vs x2 q.2 fun e he=>z e (List.mem_cons_of_mem _ he)
    have kA:∀ b ∈ A,b ∈ A ++ B:=fun b hb=>List.mem_append.mpr (.inl hb)
    have kB:∀ b ∈ B,b ∈ A ++ B:=fun b hb=>List.mem_append.mpr (.inr hb)
    refine ⟨A ++ B,fun u hu=>?_,fun b hb=>?_⟩
    · rcases List.mem_cons.mp hu with e | m
      · rw [e]
        exact a1.mono kA
      · exact (b1 u m).mono kB
    · rcases List.mem_append.mp hb with m | m
      · exact (a2 b m).mono kA
      · exact (b2 b m).mono kB
end
end
def hoOf (o:Obj):Option HO:=match o.data with
  | .seq vs _=>if (o.cls == Value.type "list")=true then some (.frz o (.lst (vs.toList.map toV))) else some (.frz o (.tup (vs.toList.map toV)))
  | _=>none
def argH (K:PySem.W.Frag) (h:Heap) (A:List Addr):Hp:=fun b=>if b ∈ A then (if (K.lookup b).isNone=true then (h.get? b).bind hoOf else none) else none
def OnlyF (H:Hp):Prop:=∀ b,H b=none ∨ ∃ o u,H b=some (.frz o u)
theorem hoOf_lst (vs:List Value):hoOf { cls:=.type "list",data:=.seq vs.toArray }=some (.frz { cls:=.type "list",data:=.seq vs.toArray } (.lst (vs.map toV))):=by
  show (if (Value.type "list" == Value.type "list")=true then some (HO.frz { cls:=.type "list",data:=.seq vs.toArray } (.lst (vs.toArray.toList.map toV))) else some (HO.frz { cls:=.type "list",data:=.seq vs.toArray } (.tup (vs.toArray.toList.map toV))))=_
  rw [if_pos (beq_self_eq_true _)]
theorem hoOf_tup (vs:List Value):hoOf { cls:=.type "tuple",data:=.seq vs.toArray }=some (.frz { cls:=.type "tuple",data:=.seq vs.toArray } (.tup (vs.map toV))):=by
  show (if (Value.type "tuple" == Value.type "list")=true then some (HO.frz { cls:=.type "tuple",data:=.seq vs.toArray } (.lst (vs.toArray.toList.map toV))) else some (HO.frz { cls:=.type "tuple",data:=.seq vs.toArray } (.tup (vs.toArray.toList.map toV))))=_
  rw [if_neg (by decide)]
section
variable {P:Program}{w:World}{K:PySem.W.Frag}{h:Heap}{A:List Addr}
theorem argH_at {b:Addr}{o:Obj} (hb:b ∈ A) (hk:K.lookup b=none) (e:h.get? b=some o):argH K h A b=hoOf o:=by
  unfold argH
  rw [if_pos hb,hk,if_pos (show (none:Option Obj).isNone=true from rfl),e] <;> rfl
theorem of_argH {b:Addr}{u:HO} (q:argH K h A b=some u):b ∈ A∧K.lookup b=none:=by
  unfold argH at q
  by_cases hb:b ∈ A
  · rw [if_pos hb] at q
    cases hk:K.lookup b with
    | none=>exact ⟨hb,rfl⟩
    | some o =>
      rw [hk,if_neg (by simp)] at q
      cases q
  · rw [if_neg hb] at q
    cases q
theorem argH_is (ar:∀ a ∈ A,ArgOb h A a) {b:Addr}{u:HO} (q:argH K h A b=some u):K.lookup b=none∧∃ vs:List Value,vs.length ≤ sizeLine∧(∀ u ∈ vs,OkU A u) ∧
    ((h.get? b=some { cls:=.type "list",data:=.seq vs.toArray }∧u = .frz { cls:=.type "list",data:=.seq vs.toArray } (.lst (vs.map toV))) ∨
     (h.get? b=some { cls:=.type "tuple",data:=.seq vs.toArray }∧u = .frz { cls:=.type "tuple",data:=.seq vs.toArray } (.tup (vs.map toV)))):=by
  obtain ⟨hb,hk⟩:=of_argH q
  obtain ⟨vs,h1,h2,h3⟩:=ar b hb
  refine ⟨hk,vs,h1,h2,?_⟩
  rcases h3 with e | e
  · rw [argH_at hb hk e,hoOf_lst] at q
    exact .inl ⟨e,(Option.some.inj q).symm⟩
  · rw [argH_at hb hk e,hoOf_tup] at q
    exact .inr ⟨e,(Option.some.inj q).symm⟩
theorem argH_only (ar:∀ a ∈ A,ArgOb h A a):OnlyF (argH K h A):=fun b=>by
  cases q:argH K h A b with
  | none=>exact .inl rfl
  | some u =>
    obtain ⟨_,vs,_,_,⟨_,e⟩ | ⟨_,e⟩⟩:=argH_is ar q
    · exact .inr ⟨_,_,by rw [e]⟩
    · exact .inr ⟨_,_,by rw [e]⟩
theorem argH_ok (ar:∀ a ∈ A,ArgOb h A a):HOk P w (argH K h A) h:=fun b u q=>by
  obtain ⟨_,vs,h1,h2,⟨e,rfl⟩ | ⟨e,rfl⟩⟩:=argH_is ar q
  · exact ⟨e,by rw [List.length_map]; exact h1,vs,_,vals_toV h2,e⟩
  · exact ⟨e,by rw [List.length_map]; exact h1,vs,vals_toV h2,_,e,rfl,_,rfl⟩
theorem seq_inj {c c':Value}{vs us:List Value} (e:(some { cls:=c,data:=.seq vs.toArray }:Option Obj)=some { cls:=c',data:=.seq us.toArray }):c=c'∧vs=us:=by
  have e1:=Option.some.inj e
  have e2:c=c':=congrArg Obj.cls e1
  have e3:Data.seq vs.toArray=Data.seq us.toArray:=congrArg Obj.data e1
  injection e3 with e4
  refine ⟨e2,?_⟩
  have e5:=congrArg Array.toList e4
  simpa using e5
theorem argL (KX:K.In h) (ar:∀ a ∈ A,ArgOb h A a) {a:Addr}{vs:List Value} (ha:a ∈ A) (e:h.get? a=some { cls:=.type "list",data:=.seq vs.toArray }):(∀ u ∈ vs,OkU A u)∧SqL K (argH K h A) a (vs.map toV):=by
  obtain ⟨us,h1,h2,h3⟩:=ar a ha
  have hu:us=vs:=by
    rcases h3 with q | q
    · rw [e] at q
      exact (seq_inj q).2.symm
    · rw [e] at q
      exact absurd (Value.type.inj (seq_inj q).1) (by decide)
  subst hu
  refine ⟨h2,?_⟩
  cases hk:K.lookup a with
  | none=>exact .inl (.inr ⟨_,by rw [argH_at ha hk e,hoOf_lst]⟩)
  | some o =>
    have e2:=KX a o hk
    rw [e] at e2
    obtain rfl:=Option.some.inj e2
    exact .inr ⟨_,us.toArray,_,hk,rfl,rfl,rfl,by rw [List.size_toArray]; exact h1,by simpa using vals_toV h2⟩
theorem argT (KX:K.In h) (ar:∀ a ∈ A,ArgOb h A a) {a:Addr}{vs:List Value} (ha:a ∈ A) (e:h.get? a=some { cls:=.type "tuple",data:=.seq vs.toArray }):(∀ u ∈ vs,OkU A u)∧SqT K (argH K h A) a (vs.map toV):=by
  obtain ⟨us,h1,h2,h3⟩:=ar a ha
  have hu:us=vs:=by
    rcases h3 with q | q
    · rw [e] at q
      exact absurd (Value.type.inj (seq_inj q).1) (by decide)
    · rw [e] at q
      exact (seq_inj q).2.symm
  subst hu
  refine ⟨h2,?_⟩
  cases hk:K.lookup a with
  | none=>exact .inl (.inr ⟨_,by rw [argH_at ha hk e,hoOf_tup]⟩)
  | some o =>
    have e2:=KX a o hk
    rw [e] at e2
    obtain rfl:=Option.some.inj e2
    exact .inr ⟨_,us.toArray,_,hk,rfl,rfl,by rw [List.size_toArray]; exact h1,by simpa using vals_toV h2⟩
mutual
theorem dw_one {Pm:Params} (KX:K.In h) (ar:∀ a ∈ A,ArgOb h A a):∀ (d:WData) (v:Value),Well Pm h v d->plW d=true->OkU A v->Dw K (argH K h A) (toV v) d
  | .none,_,x,_,_=>by
    cases x
    exact .non
  | .bool b,_,x,_,_=>by
    cases x
    exact .bl b
  | .int i,_,x,_,_=>by
    cases x
    exact .int i
  | .str s,_,x,_,_=>by
    cases x
    exact .str s
  | .bytes b,_,x,_,_=>by
    cases x
    have z:=Dw.byt (K:=K) (H:=argH K h A) b.toArray
    exact z
  | .list ds,_,x,p,hu=>by
    obtain ⟨a,vs,rfl,ho,hall⟩:=well_list x
    obtain ⟨h2,hs⟩:=argL KX ar hu ho
    exact .lst hs (dw_all KX ar ds _ hall p h2)
  | .tuple ds,_,x,p,hu=>by
    obtain ⟨a,vs,rfl,ho,hall⟩:=well_tuple x
    obtain ⟨h2,hs⟩:=argT KX ar hu ho
    exact .tup hs (dw_all KX ar ds _ hall p h2)
  | .float _,_,_,p,_=>Bool.noConfusion (show false=true from p)
  | .dict _,_,_,p,_=>Bool.noConfusion (show false=true from p)
  | .bytearray _,_,_,p,_=>Bool.noConfusion (show false=true from p)
  | .set _,_,_,p,_=>Bool.noConfusion (show false=true from p)
  | .frozenset _,_,_,p,_=>Bool.noConfusion (show false=true from p)
  | .obj _ _,_,_,p,_=>Bool.noConfusion (show false=true from p)
theorem dw_all {Pm:Params} (KX:K.In h) (ar:∀ a ∈ A,ArgOb h A a):∀ (ds:List WData) (vs:List Value),WellAll Pm h vs ds->plWs ds=true->(∀ u ∈ vs,OkU A u)->DwAll K (argH K h A) (vs.map toV) ds
  | [],_,x,_,_=>by
    cases x
    exact .nil
  | d :: ds,_,x,p,hu=>by
    obtain ⟨v,vs,rfl,x1,x2⟩:=well_cons x
    have q:plW d=true∧plWs ds=true:=Bool.and_eq_true_iff.mp p
    exact .cons (dw_one KX ar d v x1 q.1 (hu _ (List.mem_cons_self ..))) (dw_all KX ar ds vs x2 q.2 fun u m=>hu u (List.mem_cons_of_mem _ m))
end
end
theorem spec_call {P:Program}{w:World}{K:PySem.W.Frag}{mg mb:Str->Option Value}{CX:CXT}{k:Nat}{fa:Addr}{fd:FuncData}{ps:List Str}{sp:Sp}{s₁:Shared}{vals:List Value}{ds:List WData}{R:PySem.W.WRecords}{cl:Str->Option Addr}{d0:WData}
    (KX:K.In s₁.heap) (hns:s₁.heap.Ns mainGlobals mg) (hb:s₁.heap.Ns builtinsNs mb) (hbb:∀ x:Str,x ≠ "__name__" → mb x=bootBuiltins x) (hlim:s₁.heap.NoLimit) (hg:s₁.gens = #[])
    (hwl:WellAll w.params s₁.heap vals ds) (hpl:plWs ds=true) (hwt:∀ d ∈ ds,d.weight ≤ 1048576) (hr:Room k callerA)
    (F:∀ base:Heap,K.In base->base.Ns mainGlobals mg->FnOk P w K mg base CX k fa fd ps sp) (hbind:∀ (s:Shared) (us:List Value),us.length=ps.length->BindsTo s fd ⟨us,[]⟩ (ps.zip us)) (hlen:ds.length=ps.length)
    (hsp:∀ (H:Hp) (xs:List V),OnlyF H->DwAll K H xs ds->sp xs H (fun v H'=>Dw K H' v d0) fun _ _ _=>False)
    (hCX:∀ H e s',CX [] H s₁ (fun _ _ _=>False) e s'->False) :
    codeAny (model P w) callerA (.call (.ref fa) ⟨vals,[]⟩) (fun r s'=>∃ u as,r = .ok (.ret u)∧ReadsW R cl s'.heap u d0 as∧OldK s₁.heap s'.heap∧s'.os=s₁.os∧AllBare s'.gens) s₁:=by
  obtain ⟨A,ho,ar⟩:=area_all ds vals hwl hpl hwt
  have hO:OnlyF (argH K s₁.heap A):=argH_only ar
  have hok:HOk P w (argH K s₁.heap A) s₁.heap:=argH_ok ar
  have hS:=dw_all KX ar ds vals hwl hpl ho
  have hV:=vals_toV ho
  have hK:∀ b u,argH K s₁.heap A b=some u->K.lookup b=none:=fun b u q=>(argH_is ar q).1
  have noA:∀ {b:Addr}{o:Obj}{es:Array DictEntry}{ep:Nat},s₁.heap.get? b=some o->o.data = .dict es ep->argH K s₁.heap A b=none:=fun {b o es ep} e d=>by
    cases q:argH K s₁.heap A b with
    | none=>rfl
    | some u =>
      obtain ⟨_,vs,_,_,⟨e2,_⟩ | ⟨e2,_⟩⟩:=argH_is ar q
      · rw [e2] at e
        cases e
        have d':Data.seq vs.toArray _=Data.dict es ep:=d
        cases d'
      · rw [e2] at e
        cases e
        have d':Data.seq vs.toArray _=Data.dict es ep:=d
        cases d'
  generalize argH K s₁.heap A=H at hO hok hS hK noA
  have base_of:∀ {b:Addr}{o:Obj},s₁.heap.get? b=some o->H b=none->(hidT s₁.heap H).get? b=some o:=fun e n=>hidT_get e n
  have nsK:∀ {b:Addr}{m:Str->Option Value},s₁.heap.Ns b m->(hidT s₁.heap H).Ns b m:=fun {b m} ⟨o,es,ep,e,d,r⟩=>⟨o,es,ep,base_of e (noA e d),d,r⟩
  have nK:∀ b o,K.lookup b=some o->H b=none:=fun b o e=>by
    cases q:H b with
    | none=>rfl
    | some u =>
      rw [hK b u q] at e
      cases e
  have hKb:K.In (hidT s₁.heap H):=fun b o e=>base_of (KX b o e) (nK b o e)
  have hM:Mod K mg (hidT s₁.heap H):=⟨hKb,nsK hns,⟨mb,nsK hb,hbb⟩,let ⟨mc,h1,h2⟩:=hlim; ⟨mc,nsK h1,h2⟩⟩
  have e0:Env0 P w K mg (hidT s₁.heap H) callerA [] s₁ H:=⟨rfl,hM,fun b o e=>of_hidT e,Nat.le_of_eq (hidT_size _ _),trivial,fun b hb=>absurd (show b ∈ ([]:List Addr) from hb) (by simp),hok,.of_eq hg⟩
  have hl:vals.length=ps.length:=by rw [wellAll_len hwl]; exact hlen
  refine codeAny_mono ((F _ hKb (nsK hns)).run callerA [] s₁ H ⟨vals,[]⟩ vals (vals.map toV) _ _ hr e0 (hbind s₁ vals hl) hV (hsp H _ hO hS)) fun r s' x=>?_
  cases r with
  | error e=>exact (hCX H e s' x).elim
  | ok fl =>
    cases fl with
    | next=>exact False.elim x
    | brk=>exact False.elim x
    | cont=>exact False.elim x
    | ret u =>
      obtain ⟨v,H',os,bare,un,hok',r',q⟩:=x
      have kept:∀ b o,s₁.heap.get? b=some o->s'.heap.get? b=some o:=fun b o e=>by
        cases q2:H b with
        | none=>exact un.keep b o e q2 (by intro z; exact absurd (show b ∈ ([]:List Addr) from z) (by simp)) (by simp)
        | some u2 =>
          rcases hO b with z | ⟨ob,u3,z⟩
          · rw [q2] at z
            cases z
          · have z2:=un.frzs b ob _ z
            obtain ⟨e1,_⟩:=hok b _ z
            obtain ⟨e2,_⟩:=hok' b _ z2
            rw [e] at e1
            cases e1
            exact e2
      have KX':K.In s'.heap:=fun b o e=>kept b o (KX b o e)
      obtain ⟨as,hrd⟩:=Dw.reads (R:=R) (cl:=cl) hok' KX' d0 v u q r'
      exact ⟨u,as,rfl,hrd,OldK.of_keep kept,os,bare⟩
theorem layable_weight {ds:List WData} (h:WData.layableAll ds=true):∀ d ∈ ds,d.weight ≤ 1048576:=fun d hd =>
  (PySem.W.layableW_iff.mp (List.all_eq_true.mp h d hd)).2.2
theorem encAll_len : ∀ (cs:List Codec) (a:Codec.denoteAll cs),(Codec.encAll cs a).length=cs.length
  | [],_=>rfl
  | c :: cs,a=>by
    show (Codec.encAll cs a.2).length + 1=cs.length + 1
    rw [encAll_len cs a.2]
theorem walk_spec {r:OpenSpec}{k:Nat}{q:Program}{loose:List Str}{XP:(Str->Option Value)->Heap->Prop}{YP:World->Heap->Prop}{d:DefRec}{K:Params->PySem.W.Frag}{CX:World->CXT}{ps:List Str}{sp:World->Sp}
    (hwell:r.wellSaid=true) (hdf:d.params.defaults=[]) (hlen:r.args.length=ps.length) (hr:Room k callerA)
    (hY:∀ (w:World) (h:Heap),YP w h->(K w.params).In h)
    (F:∀ (w:World) (mg:Str->Option Value) (fa:Addr) (h:Heap),YP w h->(K w.params).In h->h.Ns mainGlobals mg->mg d.name=some (.ref fa) →
      ∃ fd:FuncData,(∀ (s:Shared) (us:List Value),us.length=ps.length->BindsTo s fd ⟨us,[]⟩ (ps.zip us)) ∧
        ∀ base:Heap,(K w.params).In base->base.Ns mainGlobals mg->FnOk r.prog w (K w.params) mg base (CX w) k fa fd ps (sp w))
    (hsp:∀ (w:World) (H:Hp) (xs:List V) (a:Codec.denoteAll r.args),OnlyF H->Codec.withinAll r.args a=true->Codec.app r.args r.asked a=true->DwAll (K w.params) H xs (Codec.encAll r.args a) →
      sp w xs H (fun v H'=>Dw (K w.params) H' v (r.ret.enc (Codec.app r.args r.f a))) fun _ _ _=>False)
    (hCX:∀ (w:World) (H:Hp) (s:Shared) (e:Value) (s':Shared),CX w [] H s (fun _ _ _=>False) e s'->False) :
    PySem.W.WalkOS q loose XP YP r d [] (fun f vs=>PySem.call f vs):=by
  intro w s_0 s₁ mg mb G Y fa o pm cd doc dV kV ho hd hcd hD hmg hg args vals as hpre hlay hrd hwl hlo
  obtain ⟨a,e1,e2⟩:=PySem.W.os_pre_some hpre
  obtain ⟨e3,hwi⟩:=Codec.encAll_of_decAll r.args args a e1
  subst e3
  have KX:=hY w _ Y
  obtain ⟨fd,hb,hF⟩:=F w mg fa _ Y KX G.T.g hmg
  refine PySem.W.enter_call (codeAny_mono (spec_call (R:=[]) (cl:=classAt s_0.heap) (d0:=r.ret.enc (Codec.app r.args r.f a)) KX G.T.g G.T.b G.T.builtins G.T.nolimit hg hwl (pl_encAll _ _) (layable_weight hlay) hr hF hb (by rw [encAll_len]; exact hlen)
    (fun H xs hO hS=>hsp w H xs a hO hwi e2 hS) fun H e s'=>hCX w H s₁ e s') fun r' s' hq=>?_)
  obtain ⟨u,as',rfl,h1,h2,h3,h4⟩:=hq
  exact ⟨.inl ⟨u,_,as',rfl,fun _=>rfl,h1,(OpenSpec.post_iff hwell hwi _ _).mpr rfl,fun z=>Bool.noConfusion (show false=true from z)⟩,h2,h3,h4⟩
theorem walk_specK {r:OpenSpec}{k:Nat}{q:Program}{loose:List Str}{XP:(Str->Option Value)->Heap->Prop}{YP:World->Heap->Prop}{d:DefRec}{K:Params->PySem.W.Frag}{CX:CXT}{ps:List Str}{sp:PySem.W.Frag->Sp}
    (hwell:r.wellSaid=true) (hdf:d.params.defaults=[]) (hlen:r.args.length=ps.length) (hr:Room k callerA)
    (hY:∀ (w:World) (h:Heap),YP w h->(K w.params).In h)
    (F:∀ (w:World) (mg:Str->Option Value) (fa:Addr) (h:Heap),YP w h->(K w.params).In h->h.Ns mainGlobals mg->mg d.name=some (.ref fa) →
      ∃ fd:FuncData,(∀ (s:Shared) (us:List Value),us.length=ps.length->BindsTo s fd ⟨us,[]⟩ (ps.zip us)) ∧
        ∀ base:Heap,(K w.params).In base->base.Ns mainGlobals mg->FnOk r.prog w (K w.params) mg base CX k fa fd ps (sp (K w.params)))
    (hsp:∀ (K:PySem.W.Frag) (H:Hp) (xs:List V) (a:Codec.denoteAll r.args),OnlyF H->Codec.withinAll r.args a=true->Codec.app r.args r.asked a=true->DwAll K H xs (Codec.encAll r.args a) →
      sp K xs H (fun v H'=>Dw K H' v (r.ret.enc (Codec.app r.args r.f a))) fun _ _ _=>False)
    (hCX:∀ (H:Hp) (s:Shared) (e:Value) (s':Shared),CX [] H s (fun _ _ _=>False) e s'->False) :
    PySem.W.WalkOS q loose XP YP r d [] (fun f vs=>PySem.call f vs) :=
  walk_spec (K:=K) (CX:=fun _=>CX) (sp:=fun w=>sp (K w.params)) hwell hdf hlen hr hY F (fun w H xs a h1 h2 h3 h4=>hsp (K w.params) H xs a h1 h2 h3 h4) fun _ H s e s'=>hCX H s e s'
end L2
end
section
set_option maxRecDepth 100000
set_option maxHeartbeats 2000000
namespace Cb
open PySem PySem.Spec PyProof.Rows L2
def top (i:Nat):Stmt:=PySem.Challenge.pw_cutanew_s01_answers.main.body.getD i (.Pass ⟨0,0,0,0⟩)
structure FnI (K:PySem.W.Frag) (mg:Str->Option Value) (x:Str) (st:Stmt) (ps:List Str):Type where
  a:Addr
  fd:FuncData
  F:Fun K x x st a fd
  m:mg x=some (.ref a)
  b:Binds K fd ps []
structure MeI (K:PySem.W.Frag) (C:Addr) (x qual:Str) (st:Stmt) (ps:List Str):Type where
  a:Addr
  fd:FuncData
  F:Fun K x qual st a fd
  m:Meth K C x a
  b:Binds K fd ps []
structure ClI (K:PySem.W.Frag) (mg:Str->Option Value) (x qual:Str) (st:Stmt) (ps fs:List Str):Type where
  C:Addr
  cl:Cls K C
  mg:mg x=some (.ref C)
  na:∀ f,f ∈ fs->NoAttr K C f
  a:Addr
  fd:FuncData
  F:Fun K "__init__" qual st a fd
  mk1:Mk K C a
  b:Binds K fd ps []
structure TuI (K:PySem.W.Frag) (mg:Str->Option Value) (x:Str) (xs:List V):Type where
  a:Addr
  m:mg x=some (.ref a)
  s:∀ H:Hp,SqT K H a xs
structure TupI (K:PySem.W.Frag) (mg:Str->Option Value) (x:Str) (xs:List (List V)):Type where
  a:Addr
  m:mg x=some (.ref a)
  as:List Addr
  s:∀ H:Hp,SqT K H a (as.map V.ref)
  p:∀ H:Hp,Paired (fun b ys=>SqT K H b ys) as xs
abbrev s_Piece_init : Stmt:=inClass (top 20) 0
abbrev s_Cutter_init : Stmt:=inClass (top 21) 0
abbrev s_Cutter_piece_at : Stmt:=inClass (top 21) 1
abbrev s_Cutter_quoted_or_odd : Stmt:=inClass (top 21) 2
abbrev s_Cutter_closing_quote : Stmt:=inClass (top 21) 3
abbrev s_is_token : Stmt:=top 22
abbrev s_is_letter : Stmt:=top 23
abbrev s_is_digit : Stmt:=top 24
abbrev s_goes_on : Stmt:=top 25
abbrev s_step_within_quotes : Stmt:=top 26
abbrev s_rest_end : Stmt:=top 27
abbrev s_word_end : Stmt:=top 28
abbrev s_digits_end : Stmt:=top 29
abbrev s_number_end : Stmt:=top 30
abbrev s_sign_or_odd : Stmt:=top 31
abbrev s_Written_init : Stmt:=inClass (top 33) 0
abbrev s_Written_put : Stmt:=inClass (top 33) 1
abbrev s_Written_fits : Stmt:=inClass (top 33) 2
abbrev s_Written_first_unsure : Stmt:=inClass (top 33) 3
abbrev s_Written_write : Stmt:=inClass (top 33) 4
abbrev s_tokens_in : Stmt:=top 34
abbrev s_written_closely : Stmt:=top 35
abbrev s_line_begin : Stmt:=top 37
abbrev s_line_begins : Stmt:=top 38
abbrev s_line_and_column : Stmt:=top 39
abbrev s_place_at : Stmt:=top 40
abbrev s_first_difference : Stmt:=top 42
abbrev s_what_counts : Stmt:=top 43
abbrev s_rows_of : Stmt:=top 44
abbrev s_Stretch_init : Stmt:=inClass (top 46) 0
abbrev s_Cut_init : Stmt:=inClass (top 47) 0
abbrev s_cut_whole : Stmt:=top 48
abbrev s_cut_anew : Stmt:=top 49
abbrev s_kept_stretches : Stmt:=top 50
abbrev s_known_ends : Stmt:=top 51
abbrev s_cut_from : Stmt:=top 52
abbrev s_cut_stretch : Stmt:=top 53
abbrev s_comment_behind : Stmt:=top 54
abbrev s_total_size : Stmt:=top 55
abbrev s_ends_of : Stmt:=top 56
abbrev s_token_count : Stmt:=top 57
abbrev s_kind_and_number : Stmt:=top 58
abbrev s_Comment_init : Stmt:=inClass (top 60) 0
abbrev s_Token_init : Stmt:=inClass (top 61) 0
abbrev s_Things_init : Stmt:=inClass (top 62) 0
abbrev s_Things_take : Stmt:=inClass (top 62) 1
abbrev s_Things_gap_here : Stmt:=inClass (top 62) 2
abbrev s_Things_take_comment : Stmt:=inClass (top 62) 3
abbrev s_Things_take_token : Stmt:=inClass (top 62) 4
abbrev s_Things_go_on : Stmt:=inClass (top 62) 5
abbrev s_things_of : Stmt:=top 63
abbrev s_without_last_blanks : Stmt:=top 64
abbrev s_Held_init : Stmt:=inClass (top 90) 0
abbrev s_Held_load : Stmt:=inClass (top 90) 1
abbrev s_Held_edit : Stmt:=inClass (top 90) 2
abbrev s_Held_undo : Stmt:=inClass (top 90) 3
abbrev s_Held_tell_text : Stmt:=inClass (top 90) 4
abbrev s_Held_tell_tokens : Stmt:=inClass (top 90) 5
abbrev s_Held_tell_token : Stmt:=inClass (top 90) 6
abbrev s_Held_tell_leads : Stmt:=inClass (top 90) 7
abbrev s_Held_tell_behind : Stmt:=inClass (top 90) 8
abbrev s_Held_tell_stretches : Stmt:=inClass (top 90) 9
abbrev s_Held_tell_stretch : Stmt:=inClass (top 90) 10
abbrev s_Held_tell_place : Stmt:=inClass (top 90) 11
abbrev s_Held_tell_offset : Stmt:=inClass (top 90) 12
abbrev s_Held_tell_same : Stmt:=inClass (top 90) 13
abbrev s_Held_tell_spaced : Stmt:=inClass (top 90) 14
abbrev s_Calls_init : Stmt:=inClass (top 91) 0
abbrev s_Calls_more : Stmt:=inClass (top 91) 1
abbrev s_Calls_take_number : Stmt:=inClass (top 91) 2
abbrev s_Calls_take_row : Stmt:=inClass (top 91) 3
abbrev s_counted : Stmt:=top 92
abbrev s_change : Stmt:=top 93
abbrev s_tell_of_all : Stmt:=top 94
abbrev s_tell_of_one : Stmt:=top 95
abbrev s_answer : Stmt:=top 96
abbrev s_answers : Stmt:=top 97
set_option genInjectivity false in
set_option genSizeOfSpec false in
structure Pg (K:PySem.W.Frag) (mg:Str->Option Value):Type where
  g_BLANK:∃ t,mg "BLANK" = some (.int (0) t)
  g_LINE_END:∃ t,mg "LINE_END" = some (.int (1) t)
  g_COMMENT:∃ t,mg "COMMENT" = some (.int (2) t)
  g_WORD:∃ t,mg "WORD" = some (.int (3) t)
  g_NUMBER:∃ t,mg "NUMBER" = some (.int (4) t)
  g_QUOTED:∃ t,mg "QUOTED" = some (.int (5) t)
  g_SIGN:∃ t,mg "SIGN" = some (.int (6) t)
  g_ODD:∃ t,mg "ODD" = some (.int (7) t)
  g_TEXT_END:∃ t,mg "TEXT_END" = some (.int (8) t)
  g_LINE_END_BYTE:∃ t,mg "LINE_END_BYTE" = some (.int (10) t)
  g_BLANK_BYTE:∃ t,mg "BLANK_BYTE" = some (.int (32) t)
  g_QUOTE_BYTE:∃ t,mg "QUOTE_BYTE" = some (.int (34) t)
  g_HASH_BYTE:∃ t,mg "HASH_BYTE" = some (.int (35) t)
  g_POINT_BYTE:∃ t,mg "POINT_BYTE" = some (.int (46) t)
  g_SEMICOLON_BYTE:∃ t,mg "SEMICOLON_BYTE" = some (.int (59) t)
  g_BACKSLASH_BYTE:∃ t,mg "BACKSLASH_BYTE" = some (.int (92) t)
  g_UNDERSCORE_BYTE:∃ t,mg "UNDERSCORE_BYTE" = some (.int (95) t)
  g_LONE_SIGNS:TuI K mg "LONE_SIGNS" [.int 33,.int 37,.int 40,.int 41,.int 42,.int 43,.int 44,.int 45,.int 46,.int 47,.int 58,.int 59,.int 60,.int 61,.int 62,.int 91,.int 93,.int 123,.int 125]
  g_PAIR_SIGNS:TupI K mg "PAIR_SIGNS" [[.int 61,.int 62],[.int 61,.int 61],[.int 33,.int 61],[.int 60,.int 61],[.int 62,.int 61],[.int 38,.int 38],[.int 124,.int 124]]
  g_LOAD:∃ t,mg "LOAD" = some (.int (0) t)
  g_EDIT:∃ t,mg "EDIT" = some (.int (1) t)
  g_UNDO:∃ t,mg "UNDO" = some (.int (2) t)
  g_TEXT:∃ t,mg "TEXT" = some (.int (3) t)
  g_TOKENS:∃ t,mg "TOKENS" = some (.int (4) t)
  g_TOKEN:∃ t,mg "TOKEN" = some (.int (5) t)
  g_LEADS:∃ t,mg "LEADS" = some (.int (6) t)
  g_BEHIND:∃ t,mg "BEHIND" = some (.int (7) t)
  g_STRETCHES:∃ t,mg "STRETCHES" = some (.int (8) t)
  g_STRETCH:∃ t,mg "STRETCH" = some (.int (9) t)
  g_PLACE:∃ t,mg "PLACE" = some (.int (10) t)
  g_OFFSET:∃ t,mg "OFFSET" = some (.int (11) t)
  g_SAME:∃ t,mg "SAME" = some (.int (12) t)
  g_SPACED:∃ t,mg "SPACED" = some (.int (13) t)
  g_TOO_LONG:∃ t,mg "TOO_LONG" = some (.int (-1) t)
  g_NO_PLACE:∃ t,mg "NO_PLACE" = some (.int (-2) t)
  g_NO_SUCH:∃ t,mg "NO_SUCH" = some (.int (-3) t)
  g_NONE_BEHIND:∃ t,mg "NONE_BEHIND" = some (.int (-4) t)
  g_TOO_MANY:∃ t,mg "TOO_MANY" = some (.int (-8) t)
  g_NO_EDIT:∃ t,mg "NO_EDIT" = some (.int (-9) t)
  g_MOST_BYTES:∃ t,mg "MOST_BYTES" = some (.int (4000) t)
  g_MOST_EDITS:∃ t,mg "MOST_EDITS" = some (.int (16) t)
  g_MOST_SPACED:∃ t,mg "MOST_SPACED" = some (.int (200) t)
  n_enumerate:mg "enumerate" = none
  n_len:mg "len" = none
  n_list:mg "list" = none
  n_max:mg "max" = none
  n_min:mg "min" = none
  n_range:mg "range" = none
  n_sum:mg "sum" = none
  n_zip:mg "zip" = none
  Piece:ClI K mg "Piece" "Piece.__init__" s_Piece_init ["self","kind","size"] ["kind","size"]
  Cutter:ClI K mg "Cutter" "Cutter.__init__" s_Cutter_init ["self","text"] ["text","unclosed"]
  Written:ClI K mg "Written" "Written.__init__" s_Written_init ["self"] ["text","tokens","begins","open_quote"]
  Stretch:ClI K mg "Stretch" "Stretch.__init__" s_Stretch_init ["self","pieces","closed"] ["pieces","closed","size","tokens"]
  Cut:ClI K mg "Cut" "Cut.__init__" s_Cut_init ["self","text","stretches","fresh"] ["text","stretches","fresh"]
  Comment:ClI K mg "Comment" "Comment.__init__" s_Comment_init ["self","row","gap"] ["row","gap"]
  Token:ClI K mg "Token" "Token.__init__" s_Token_init ["self","kind","begin","row","gap","leading"] ["kind","begin","row","gap","leading","behind"]
  Things:ClI K mg "Things" "Things.__init__" s_Things_init ["self"] ["tokens","waiting","line_ends","begun"]
  Held:ClI K mg "Held" "Held.__init__" s_Held_init ["self"] ["now","before"]
  Calls:ClI K mg "Calls" "Calls.__init__" s_Calls_init ["self","numbers"] ["numbers","place"]
  m_Cutter_piece_at:MeI K Cutter.C "piece_at" "Cutter.piece_at" s_Cutter_piece_at ["self","place"]
  m_Cutter_quoted_or_odd:MeI K Cutter.C "quoted_or_odd" "Cutter.quoted_or_odd" s_Cutter_quoted_or_odd ["self","place"]
  m_Cutter_closing_quote:MeI K Cutter.C "closing_quote" "Cutter.closing_quote" s_Cutter_closing_quote ["self","place"]
  f_is_token:FnI K mg "is_token" s_is_token ["kind"]
  f_is_letter:FnI K mg "is_letter" s_is_letter ["byte"]
  f_is_digit:FnI K mg "is_digit" s_is_digit ["byte"]
  f_goes_on:FnI K mg "goes_on" s_goes_on ["text","place"]
  f_step_within_quotes:FnI K mg "step_within_quotes" s_step_within_quotes ["text","place"]
  f_rest_end:FnI K mg "rest_end" s_rest_end ["text","place"]
  f_word_end:FnI K mg "word_end" s_word_end ["text","place"]
  f_digits_end:FnI K mg "digits_end" s_digits_end ["text","place"]
  f_number_end:FnI K mg "number_end" s_number_end ["text","place"]
  f_sign_or_odd:FnI K mg "sign_or_odd" s_sign_or_odd ["text","place"]
  m_Written_put:MeI K Written.C "put" "Written.put" s_Written_put ["self","token"]
  m_Written_fits:MeI K Written.C "fits" "Written.fits" s_Written_fits ["self","between","token"]
  m_Written_first_unsure:MeI K Written.C "first_unsure" "Written.first_unsure" s_Written_first_unsure ["self","token"]
  m_Written_write:MeI K Written.C "write" "Written.write" s_Written_write ["self","between","token"]
  f_tokens_in:FnI K mg "tokens_in" s_tokens_in ["text"]
  f_written_closely:FnI K mg "written_closely" s_written_closely ["pairs"]
  f_line_begin:FnI K mg "line_begin" s_line_begin ["text","place"]
  f_line_begins:FnI K mg "line_begins" s_line_begins ["text"]
  f_line_and_column:FnI K mg "line_and_column" s_line_and_column ["text","place"]
  f_place_at:FnI K mg "place_at" s_place_at ["text","line","column"]
  f_first_difference:FnI K mg "first_difference" s_first_difference ["some","others"]
  f_what_counts:FnI K mg "what_counts" s_what_counts ["token"]
  f_rows_of:FnI K mg "rows_of" s_rows_of ["comments"]
  f_cut_whole:FnI K mg "cut_whole" s_cut_whole ["text"]
  f_cut_anew:FnI K mg "cut_anew" s_cut_anew ["cut","a","b","row"]
  f_kept_stretches:FnI K mg "kept_stretches" s_kept_stretches ["cut","a"]
  f_known_ends:FnI K mg "known_ends" s_known_ends ["cut","b","longer"]
  f_cut_from:FnI K mg "cut_from" s_cut_from ["text","place","known"]
  f_cut_stretch:FnI K mg "cut_stretch" s_cut_stretch ["cutter","place"]
  f_comment_behind:FnI K mg "comment_behind" s_comment_behind ["cutter","place"]
  f_total_size:FnI K mg "total_size" s_total_size ["stretches"]
  f_ends_of:FnI K mg "ends_of" s_ends_of ["stretches"]
  f_token_count:FnI K mg "token_count" s_token_count ["stretches"]
  f_kind_and_number:FnI K mg "kind_and_number" s_kind_and_number ["cut","place"]
  m_Things_take:MeI K Things.C "take" "Things.take" s_Things_take ["self","piece","text","place"]
  m_Things_gap_here:MeI K Things.C "gap_here" "Things.gap_here" s_Things_gap_here ["self"]
  m_Things_take_comment:MeI K Things.C "take_comment" "Things.take_comment" s_Things_take_comment ["self","comment"]
  m_Things_take_token:MeI K Things.C "take_token" "Things.take_token" s_Things_take_token ["self","token"]
  m_Things_go_on:MeI K Things.C "go_on" "Things.go_on" s_Things_go_on ["self"]
  f_things_of:FnI K mg "things_of" s_things_of ["cut"]
  f_without_last_blanks:FnI K mg "without_last_blanks" s_without_last_blanks ["row"]
  m_Held_load:MeI K Held.C "load" "Held.load" s_Held_load ["self","row"]
  m_Held_edit:MeI K Held.C "edit" "Held.edit" s_Held_edit ["self","a","b","row"]
  m_Held_undo:MeI K Held.C "undo" "Held.undo" s_Held_undo ["self"]
  m_Held_tell_text:MeI K Held.C "tell_text" "Held.tell_text" s_Held_tell_text ["self"]
  m_Held_tell_tokens:MeI K Held.C "tell_tokens" "Held.tell_tokens" s_Held_tell_tokens ["self"]
  m_Held_tell_token:MeI K Held.C "tell_token" "Held.tell_token" s_Held_tell_token ["self","i"]
  m_Held_tell_leads:MeI K Held.C "tell_leads" "Held.tell_leads" s_Held_tell_leads ["self","i"]
  m_Held_tell_behind:MeI K Held.C "tell_behind" "Held.tell_behind" s_Held_tell_behind ["self","i"]
  m_Held_tell_stretches:MeI K Held.C "tell_stretches" "Held.tell_stretches" s_Held_tell_stretches ["self"]
  m_Held_tell_stretch:MeI K Held.C "tell_stretch" "Held.tell_stretch" s_Held_tell_stretch ["self","k"]
  m_Held_tell_place:MeI K Held.C "tell_place" "Held.tell_place" s_Held_tell_place ["self","n"]
  m_Held_tell_offset:MeI K Held.C "tell_offset" "Held.tell_offset" s_Held_tell_offset ["self","line","column"]
  m_Held_tell_same:MeI K Held.C "tell_same" "Held.tell_same" s_Held_tell_same ["self","row"]
  m_Held_tell_spaced:MeI K Held.C "tell_spaced" "Held.tell_spaced" s_Held_tell_spaced ["self"]
  m_Calls_more:MeI K Calls.C "more" "Calls.more" s_Calls_more ["self"]
  m_Calls_take_number:MeI K Calls.C "take_number" "Calls.take_number" s_Calls_take_number ["self"]
  m_Calls_take_row:MeI K Calls.C "take_row" "Calls.take_row" s_Calls_take_row ["self"]
  f_counted:FnI K mg "counted" s_counted ["row"]
  f_change:FnI K mg "change" s_change ["held","number","calls"]
  f_tell_of_all:FnI K mg "tell_of_all" s_tell_of_all ["held","number"]
  f_tell_of_one:FnI K mg "tell_of_one" s_tell_of_one ["held","number","which"]
  f_answer:FnI K mg "answer" s_answer ["held","calls"]
  f_answers:FnI K mg "answers" s_answers ["calls"]
theorem sc_Piece_init : FnScope ["self","kind","size"] ["self","kind","size"] (defScope s_Piece_init):=⟨rfl,rfl,rfl,by decide +kernel,rfl,by decide +kernel,by decide +kernel⟩
theorem sc_Cutter_init : FnScope ["self","text"] ["self","text"] (defScope s_Cutter_init):=⟨rfl,rfl,rfl,by decide +kernel,rfl,by decide +kernel,by decide +kernel⟩
theorem sc_Cutter_piece_at : FnScope ["self","place","byte"] ["self","place"] (defScope s_Cutter_piece_at):=⟨rfl,rfl,rfl,by decide +kernel,rfl,by decide +kernel,by decide +kernel⟩
theorem sc_Cutter_quoted_or_odd : FnScope ["self","place","closing"] ["self","place"] (defScope s_Cutter_quoted_or_odd):=⟨rfl,rfl,rfl,by decide +kernel,rfl,by decide +kernel,by decide +kernel⟩
theorem sc_Cutter_closing_quote : FnScope ["self","place","passed","dead"] ["self","place"] (defScope s_Cutter_closing_quote):=⟨rfl,rfl,rfl,by decide +kernel,rfl,by decide +kernel,by decide +kernel⟩
theorem sc_is_token : FnScope ["kind"] ["kind"] (defScope s_is_token):=⟨rfl,rfl,rfl,by decide +kernel,rfl,by decide +kernel,by decide +kernel⟩
theorem sc_is_letter : FnScope ["byte"] ["byte"] (defScope s_is_letter):=⟨rfl,rfl,rfl,by decide +kernel,rfl,by decide +kernel,by decide +kernel⟩
theorem sc_is_digit : FnScope ["byte"] ["byte"] (defScope s_is_digit):=⟨rfl,rfl,rfl,by decide +kernel,rfl,by decide +kernel,by decide +kernel⟩
theorem sc_goes_on : FnScope ["text","place"] ["text","place"] (defScope s_goes_on):=⟨rfl,rfl,rfl,by decide +kernel,rfl,by decide +kernel,by decide +kernel⟩
theorem sc_step_within_quotes : FnScope ["text","place"] ["text","place"] (defScope s_step_within_quotes):=⟨rfl,rfl,rfl,by decide +kernel,rfl,by decide +kernel,by decide +kernel⟩
theorem sc_rest_end : FnScope ["text","place"] ["text","place"] (defScope s_rest_end):=⟨rfl,rfl,rfl,by decide +kernel,rfl,by decide +kernel,by decide +kernel⟩
theorem sc_word_end : FnScope ["text","place"] ["text","place"] (defScope s_word_end):=⟨rfl,rfl,rfl,by decide +kernel,rfl,by decide +kernel,by decide +kernel⟩
theorem sc_digits_end : FnScope ["text","place"] ["text","place"] (defScope s_digits_end):=⟨rfl,rfl,rfl,by decide +kernel,rfl,by decide +kernel,by decide +kernel⟩
theorem sc_number_end : FnScope ["text","place","end"] ["text","place"] (defScope s_number_end):=⟨rfl,rfl,rfl,by decide +kernel,rfl,by decide +kernel,by decide +kernel⟩
theorem sc_sign_or_odd : FnScope ["text","place"] ["text","place"] (defScope s_sign_or_odd):=⟨rfl,rfl,rfl,by decide +kernel,rfl,by decide +kernel,by decide +kernel⟩
theorem sc_Written_init : FnScope ["self"] ["self"] (defScope s_Written_init):=⟨rfl,rfl,rfl,by decide +kernel,rfl,by decide +kernel,by decide +kernel⟩
theorem sc_Written_put : FnScope ["self","token"] ["self","token"] (defScope s_Written_put):=⟨rfl,rfl,rfl,by decide +kernel,rfl,by decide +kernel,by decide +kernel⟩
theorem sc_Written_fits : FnScope ["self","between","token","first","place","tried"] ["self","between","token"] (defScope s_Written_fits):=⟨rfl,rfl,rfl,by decide +kernel,rfl,by decide +kernel,by decide +kernel⟩
theorem sc_Written_first_unsure : FnScope ["self","token","first"] ["self","token"] (defScope s_Written_first_unsure):=⟨rfl,rfl,rfl,by decide +kernel,rfl,by decide +kernel,by decide +kernel⟩
theorem sc_Written_write : FnScope ["self","between","token"] ["self","between","token"] (defScope s_Written_write):=⟨rfl,rfl,rfl,by decide +kernel,rfl,by decide +kernel,by decide +kernel⟩
theorem sc_tokens_in : FnScope ["text","cutter","pairs","place","piece"] ["text"] (defScope s_tokens_in):=⟨rfl,rfl,rfl,by decide +kernel,rfl,by decide +kernel,by decide +kernel⟩
theorem sc_written_closely : FnScope ["pairs","written","pair"] ["pairs"] (defScope s_written_closely):=⟨rfl,rfl,rfl,by decide +kernel,rfl,by decide +kernel,by decide +kernel⟩
theorem sc_line_begin : FnScope ["text","place"] ["text","place"] (defScope s_line_begin):=⟨rfl,rfl,rfl,by decide +kernel,rfl,by decide +kernel,by decide +kernel⟩
theorem sc_line_begins : FnScope ["text","place","byte"] ["text"] (defScope s_line_begins):=⟨rfl,rfl,rfl,by decide +kernel,rfl,by decide +kernel,by decide +kernel⟩
theorem sc_line_and_column : FnScope ["text","place"] ["text","place"] (defScope s_line_and_column):=⟨rfl,rfl,rfl,by decide +kernel,rfl,by decide +kernel,by decide +kernel⟩
theorem sc_place_at : FnScope ["text","line","column","begins","place"] ["text","line","column"] (defScope s_place_at):=⟨rfl,rfl,rfl,by decide +kernel,rfl,by decide +kernel,by decide +kernel⟩
theorem sc_first_difference : FnScope ["some","others","both","number"] ["some","others"] (defScope s_first_difference):=⟨rfl,rfl,rfl,by decide +kernel,rfl,by decide +kernel,by decide +kernel⟩
theorem sc_what_counts : FnScope ["token","behind"] ["token"] (defScope s_what_counts):=⟨rfl,rfl,rfl,by decide +kernel,rfl,by decide +kernel,by decide +kernel⟩
theorem sc_rows_of : FnScope ["comments","comment"] ["comments"] (defScope s_rows_of):=⟨rfl,rfl,rfl,by decide +kernel,rfl,by decide +kernel,by decide +kernel⟩
theorem sc_Stretch_init : FnScope ["self","pieces","closed","piece"] ["self","pieces","closed"] (defScope s_Stretch_init):=⟨rfl,rfl,rfl,by decide +kernel,rfl,by decide +kernel,by decide +kernel⟩
theorem sc_Cut_init : FnScope ["self","text","stretches","fresh"] ["self","text","stretches","fresh"] (defScope s_Cut_init):=⟨rfl,rfl,rfl,by decide +kernel,rfl,by decide +kernel,by decide +kernel⟩
theorem sc_cut_whole : FnScope ["text"] ["text"] (defScope s_cut_whole):=⟨rfl,rfl,rfl,by decide +kernel,rfl,by decide +kernel,by decide +kernel⟩
theorem sc_cut_anew : FnScope ["cut","a","b","row","text","kept","begin","known","fresh","end","rest"] ["cut","a","b","row"] (defScope s_cut_anew):=⟨rfl,rfl,rfl,by decide +kernel,rfl,by decide +kernel,by decide +kernel⟩
theorem sc_kept_stretches : FnScope ["cut","a","begin","stretch","end"] ["cut","a"] (defScope s_kept_stretches):=⟨rfl,rfl,rfl,by decide +kernel,rfl,by decide +kernel,by decide +kernel⟩
theorem sc_known_ends : FnScope ["cut","b","longer","known","number","end"] ["cut","b","longer"] (defScope s_known_ends):=⟨rfl,rfl,rfl,by decide +kernel,rfl,by decide +kernel,by decide +kernel⟩
theorem sc_cut_from : FnScope ["text","place","known","cutter","stretches","stretch"] ["text","place","known"] (defScope s_cut_from):=⟨rfl,rfl,rfl,by decide +kernel,rfl,by decide +kernel,by decide +kernel⟩
theorem sc_cut_stretch : FnScope ["cutter","place","pieces","piece"] ["cutter","place"] (defScope s_cut_stretch):=⟨rfl,rfl,rfl,by decide +kernel,rfl,by decide +kernel,by decide +kernel⟩
theorem sc_comment_behind : FnScope ["cutter","place","pieces","piece"] ["cutter","place"] (defScope s_comment_behind):=⟨rfl,rfl,rfl,by decide +kernel,rfl,by decide +kernel,by decide +kernel⟩
theorem sc_total_size : FnScope ["stretches","stretch"] ["stretches"] (defScope s_total_size):=⟨rfl,rfl,rfl,by decide +kernel,rfl,by decide +kernel,by decide +kernel⟩
theorem sc_ends_of : FnScope ["stretches","ends","place","stretch"] ["stretches"] (defScope s_ends_of):=⟨rfl,rfl,rfl,by decide +kernel,rfl,by decide +kernel,by decide +kernel⟩
theorem sc_token_count : FnScope ["stretches","stretch"] ["stretches"] (defScope s_token_count):=⟨rfl,rfl,rfl,by decide +kernel,rfl,by decide +kernel,by decide +kernel⟩
theorem sc_kind_and_number : FnScope ["cut","place","end","number","stretch","piece"] ["cut","place"] (defScope s_kind_and_number):=⟨rfl,rfl,rfl,by decide +kernel,rfl,by decide +kernel,by decide +kernel⟩
theorem sc_Comment_init : FnScope ["self","row","gap"] ["self","row","gap"] (defScope s_Comment_init):=⟨rfl,rfl,rfl,by decide +kernel,rfl,by decide +kernel,by decide +kernel⟩
theorem sc_Token_init : FnScope ["self","kind","begin","row","gap","leading"] ["self","kind","begin","row","gap","leading"] (defScope s_Token_init):=⟨rfl,rfl,rfl,by decide +kernel,rfl,by decide +kernel,by decide +kernel⟩
theorem sc_Things_init : FnScope ["self"] ["self"] (defScope s_Things_init):=⟨rfl,rfl,rfl,by decide +kernel,rfl,by decide +kernel,by decide +kernel⟩
theorem sc_Things_take : FnScope ["self","piece","text","place","row"] ["self","piece","text","place"] (defScope s_Things_take):=⟨rfl,rfl,rfl,by decide +kernel,rfl,by decide +kernel,by decide +kernel⟩
theorem sc_Things_gap_here : FnScope ["self"] ["self"] (defScope s_Things_gap_here):=⟨rfl,rfl,rfl,by decide +kernel,rfl,by decide +kernel,by decide +kernel⟩
theorem sc_Things_take_comment : FnScope ["self","comment"] ["self","comment"] (defScope s_Things_take_comment):=⟨rfl,rfl,rfl,by decide +kernel,rfl,by decide +kernel,by decide +kernel⟩
theorem sc_Things_take_token : FnScope ["self","token"] ["self","token"] (defScope s_Things_take_token):=⟨rfl,rfl,rfl,by decide +kernel,rfl,by decide +kernel,by decide +kernel⟩
theorem sc_Things_go_on : FnScope ["self"] ["self"] (defScope s_Things_go_on):=⟨rfl,rfl,rfl,by decide +kernel,rfl,by decide +kernel,by decide +kernel⟩
theorem sc_things_of : FnScope ["cut","things","place","stretch","piece"] ["cut"] (defScope s_things_of):=⟨rfl,rfl,rfl,by decide +kernel,rfl,by decide +kernel,by decide +kernel⟩
theorem sc_without_last_blanks : FnScope ["row","end"] ["row"] (defScope s_without_last_blanks):=⟨rfl,rfl,rfl,by decide +kernel,rfl,by decide +kernel,by decide +kernel⟩
theorem sc_Held_init : FnScope ["self"] ["self"] (defScope s_Held_init):=⟨rfl,rfl,rfl,by decide +kernel,rfl,by decide +kernel,by decide +kernel⟩
theorem sc_Held_load : FnScope ["self","row"] ["self","row"] (defScope s_Held_load):=⟨rfl,rfl,rfl,by decide +kernel,rfl,by decide +kernel,by decide +kernel⟩
theorem sc_Held_edit : FnScope ["self","a","b","row","size"] ["self","a","b","row"] (defScope s_Held_edit):=⟨rfl,rfl,rfl,by decide +kernel,rfl,by decide +kernel,by decide +kernel⟩
theorem sc_Held_undo : FnScope ["self"] ["self"] (defScope s_Held_undo):=⟨rfl,rfl,rfl,by decide +kernel,rfl,by decide +kernel,by decide +kernel⟩
theorem sc_Held_tell_text : FnScope ["self"] ["self"] (defScope s_Held_tell_text):=⟨rfl,rfl,rfl,by decide +kernel,rfl,by decide +kernel,by decide +kernel⟩
theorem sc_Held_tell_tokens : FnScope ["self","tokens","told","token"] ["self"] (defScope s_Held_tell_tokens):=⟨rfl,rfl,rfl,by decide +kernel,rfl,by decide +kernel,by decide +kernel⟩
theorem sc_Held_tell_token : FnScope ["self","i","tokens","token","behind"] ["self","i"] (defScope s_Held_tell_token):=⟨rfl,rfl,rfl,by decide +kernel,rfl,by decide +kernel,by decide +kernel⟩
theorem sc_Held_tell_leads : FnScope ["self","i","things","comments","told","comment"] ["self","i"] (defScope s_Held_tell_leads):=⟨rfl,rfl,rfl,by decide +kernel,rfl,by decide +kernel,by decide +kernel⟩
theorem sc_Held_tell_behind : FnScope ["self","i","tokens"] ["self","i"] (defScope s_Held_tell_behind):=⟨rfl,rfl,rfl,by decide +kernel,rfl,by decide +kernel,by decide +kernel⟩
theorem sc_Held_tell_stretches : FnScope ["self"] ["self"] (defScope s_Held_tell_stretches):=⟨rfl,rfl,rfl,by decide +kernel,rfl,by decide +kernel,by decide +kernel⟩
theorem sc_Held_tell_stretch : FnScope ["self","k","stretches","before"] ["self","k"] (defScope s_Held_tell_stretch):=⟨rfl,rfl,rfl,by decide +kernel,rfl,by decide +kernel,by decide +kernel⟩
theorem sc_Held_tell_place : FnScope ["self","n"] ["self","n"] (defScope s_Held_tell_place):=⟨rfl,rfl,rfl,by decide +kernel,rfl,by decide +kernel,by decide +kernel⟩
theorem sc_Held_tell_offset : FnScope ["self","line","column","place"] ["self","line","column"] (defScope s_Held_tell_offset):=⟨rfl,rfl,rfl,by decide +kernel,rfl,by decide +kernel,by decide +kernel⟩
theorem sc_Held_tell_same : FnScope ["self","row","number"] ["self","row"] (defScope s_Held_tell_same):=⟨rfl,rfl,rfl,by decide +kernel,rfl,by decide +kernel,by decide +kernel⟩
theorem sc_Held_tell_spaced : FnScope ["self","tokens","token"] ["self"] (defScope s_Held_tell_spaced):=⟨rfl,rfl,rfl,by decide +kernel,rfl,by decide +kernel,by decide +kernel⟩
theorem sc_Calls_init : FnScope ["self","numbers"] ["self","numbers"] (defScope s_Calls_init):=⟨rfl,rfl,rfl,by decide +kernel,rfl,by decide +kernel,by decide +kernel⟩
theorem sc_Calls_more : FnScope ["self"] ["self"] (defScope s_Calls_more):=⟨rfl,rfl,rfl,by decide +kernel,rfl,by decide +kernel,by decide +kernel⟩
theorem sc_Calls_take_number : FnScope ["self","number"] ["self"] (defScope s_Calls_take_number):=⟨rfl,rfl,rfl,by decide +kernel,rfl,by decide +kernel,by decide +kernel⟩
theorem sc_Calls_take_row : FnScope ["self","size","row"] ["self"] (defScope s_Calls_take_row):=⟨rfl,rfl,rfl,by decide +kernel,rfl,by decide +kernel,by decide +kernel⟩
theorem sc_counted : FnScope ["row"] ["row"] (defScope s_counted):=⟨rfl,rfl,rfl,by decide +kernel,rfl,by decide +kernel,by decide +kernel⟩
theorem sc_change : FnScope ["held","number","calls","a","b"] ["held","number","calls"] (defScope s_change):=⟨rfl,rfl,rfl,by decide +kernel,rfl,by decide +kernel,by decide +kernel⟩
theorem sc_tell_of_all : FnScope ["held","number"] ["held","number"] (defScope s_tell_of_all):=⟨rfl,rfl,rfl,by decide +kernel,rfl,by decide +kernel,by decide +kernel⟩
theorem sc_tell_of_one : FnScope ["held","number","which"] ["held","number","which"] (defScope s_tell_of_one):=⟨rfl,rfl,rfl,by decide +kernel,rfl,by decide +kernel,by decide +kernel⟩
theorem sc_answer : FnScope ["held","calls","number","line"] ["held","calls"] (defScope s_answer):=⟨rfl,rfl,rfl,by decide +kernel,rfl,by decide +kernel,by decide +kernel⟩
theorem sc_answers : FnScope ["calls","held","reader","told","numbers"] ["calls"] (defScope s_answers):=⟨rfl,rfl,rfl,by decide +kernel,rfl,by decide +kernel,by decide +kernel⟩
section
variable {X:Cx}
theorem pe_gint {x:Str}{i:Int}{pos:Pos} (hg:Gl X x) (hm:∃ t,X.mg x=some (.int i t)) (hd:(x == ("__debug__" : Str))=false:=by decide):PE X (.Name x pos) (tC (.int i)):=by
  obtain ⟨t,hm⟩:=hm
  exact pe_glob hg hm ⟨t,rfl⟩ hd
end
end Cb
end
section
set_option maxRecDepth 100000
set_option maxHeartbeats 2000000
namespace Cb
open PySem PySem.Spec PyProof.Rows L2
section
variable {K:PySem.W.Frag}{mg:Str->Option Value}{H:Hp}{Q:V->Prop}
theorem fld {a C dx:Addr}{fs:List (Str × V)}{v:V}{f:Str} (h:H a=some (.ins C dx fs)) (cl:Cls K C) (na:NoAttr K C f) (l:fs.lookup f=some v) (q:Q v) :
    ∃ a' C' dx' fs' v',V.ref a = .ref a'∧H a'=some (.ins C' dx' fs')∧Cls K C'∧NoAttr K C' f∧fs'.lookup f=some v'∧Q v':=⟨a,C,dx,fs,v,rfl,h,cl,na,l,q⟩
theorem fsto {a C dx:Addr}{fs fs1:List (Str × V)}{y:V}{f:Str}{R:Hp->Prop} (h:H a=some (.ins C dx fs)) (cl:Cls K C) (na:NoAttr K C f) (n:fs.length < 1000) (e:putF f y fs=fs1) (q:R (upd H a (.ins C dx fs1))) :
    ∃ a' C' dx' fs',V.ref a = .ref a'∧H a'=some (.ins C' dx' fs')∧Cls K C'∧NoAttr K C' f∧fs'.length < 1000∧R (upd H a' (.ins C' dx' (putF f y fs'))):=⟨a,C,dx,fs,rfl,h,cl,na,n,by rw [e]; exact q⟩
theorem mth {a C dx:Addr}{fs:List (Str × V)}{m:Str}{R:Prop} (h:H a=some (.ins C dx fs)) (l:fs.lookup m=none) (q:R) :
    ∃ a' dx' fs',V.ref a = .ref a'∧H a'=some (.ins C dx' fs')∧fs'.lookup m=none∧R:=⟨a,dx,fs,rfl,h,l,q⟩
def fPiece (x0:Int) (x1:Int):List (Str × V):=[("kind",.int x0),("size",.int x1)]
theorem pi_Piece_kind {x0:Int}{x1:Int}:putF "kind" (.int x0) ([]:List (Str × V))=[(("kind" : Str),(.int x0:V))]:=by kernel_rfl
theorem pi_Piece_size {x0:Int}{x1:Int}:putF "size" (.int x1) [(("kind" : Str),(.int x0:V))]=[(("kind" : Str),(.int x0:V)),(("size" : Str),(.int x1:V))]:=by kernel_rfl
theorem lk_Piece_kind {x0:Int}{x1:Int}:(fPiece x0 x1).lookup ("kind" : Str)=some (.int x0):=by kernel_rfl
theorem rf_Piece_kind (g:Pg K mg) {a dx:Addr}{x0:Int}{x1:Int} (h:H a=some (.ins g.Piece.C dx (fPiece x0 x1))) (q:Q (.int x0)) :
    ∃ a' C' dx' fs' v',V.ref a = .ref a'∧H a'=some (.ins C' dx' fs')∧Cls K C'∧NoAttr K C' "kind" ∧ fs'.lookup ("kind" : Str)=some v'∧Q v':=fld h g.Piece.cl (g.Piece.na _ (by decide +kernel)) lk_Piece_kind q
theorem lk_Piece_size {x0:Int}{x1:Int}:(fPiece x0 x1).lookup ("size" : Str)=some (.int x1):=by kernel_rfl
theorem rf_Piece_size (g:Pg K mg) {a dx:Addr}{x0:Int}{x1:Int} (h:H a=some (.ins g.Piece.C dx (fPiece x0 x1))) (q:Q (.int x1)) :
    ∃ a' C' dx' fs' v',V.ref a = .ref a'∧H a'=some (.ins C' dx' fs')∧Cls K C'∧NoAttr K C' "size" ∧ fs'.lookup ("size" : Str)=some v'∧Q v':=fld h g.Piece.cl (g.Piece.na _ (by decide +kernel)) lk_Piece_size q
def fCutter (x0:Addr) (x1:Addr):List (Str × V):=[("text",.ref x0),("unclosed",.ref x1)]
theorem pi_Cutter_text {x0:Addr}{x1:Addr}:putF "text" (.ref x0) ([]:List (Str × V))=[(("text" : Str),(.ref x0:V))]:=by kernel_rfl
theorem pi_Cutter_unclosed {x0:Addr}{x1:Addr}:putF "unclosed" (.ref x1) [(("text" : Str),(.ref x0:V))]=[(("text" : Str),(.ref x0:V)),(("unclosed" : Str),(.ref x1:V))]:=by kernel_rfl
theorem lk_Cutter_text {x0:Addr}{x1:Addr}:(fCutter x0 x1).lookup ("text" : Str)=some (.ref x0):=by kernel_rfl
theorem rf_Cutter_text (g:Pg K mg) {a dx:Addr}{x0:Addr}{x1:Addr} (h:H a=some (.ins g.Cutter.C dx (fCutter x0 x1))) (q:Q (.ref x0)) :
    ∃ a' C' dx' fs' v',V.ref a = .ref a'∧H a'=some (.ins C' dx' fs')∧Cls K C'∧NoAttr K C' "text" ∧ fs'.lookup ("text" : Str)=some v'∧Q v':=fld h g.Cutter.cl (g.Cutter.na _ (by decide +kernel)) lk_Cutter_text q
theorem lk_Cutter_unclosed {x0:Addr}{x1:Addr}:(fCutter x0 x1).lookup ("unclosed" : Str)=some (.ref x1):=by kernel_rfl
theorem rf_Cutter_unclosed (g:Pg K mg) {a dx:Addr}{x0:Addr}{x1:Addr} (h:H a=some (.ins g.Cutter.C dx (fCutter x0 x1))) (q:Q (.ref x1)) :
    ∃ a' C' dx' fs' v',V.ref a = .ref a'∧H a'=some (.ins C' dx' fs')∧Cls K C'∧NoAttr K C' "unclosed" ∧ fs'.lookup ("unclosed" : Str)=some v'∧Q v':=fld h g.Cutter.cl (g.Cutter.na _ (by decide +kernel)) lk_Cutter_unclosed q
theorem rm_Cutter_piece_at (g:Pg K mg) {a dx:Addr}{x0:Addr}{x1:Addr}{R:Prop} (h:H a=some (.ins g.Cutter.C dx (fCutter x0 x1))) (q:R) :
    ∃ a' dx' fs',V.ref a = .ref a'∧H a'=some (.ins g.Cutter.C dx' fs')∧fs'.lookup ("piece_at" : Str)=none∧R:=mth h (by kernel_rfl) q
theorem rm_Cutter_quoted_or_odd (g:Pg K mg) {a dx:Addr}{x0:Addr}{x1:Addr}{R:Prop} (h:H a=some (.ins g.Cutter.C dx (fCutter x0 x1))) (q:R) :
    ∃ a' dx' fs',V.ref a = .ref a'∧H a'=some (.ins g.Cutter.C dx' fs')∧fs'.lookup ("quoted_or_odd" : Str)=none∧R:=mth h (by kernel_rfl) q
theorem rm_Cutter_closing_quote (g:Pg K mg) {a dx:Addr}{x0:Addr}{x1:Addr}{R:Prop} (h:H a=some (.ins g.Cutter.C dx (fCutter x0 x1))) (q:R) :
    ∃ a' dx' fs',V.ref a = .ref a'∧H a'=some (.ins g.Cutter.C dx' fs')∧fs'.lookup ("closing_quote" : Str)=none∧R:=mth h (by kernel_rfl) q
def fStretch (x0:Addr) (x1:Bool) (x2:Int) (x3:Int):List (Str × V):=[("pieces",.ref x0),("closed",.bl x1),("size",.int x2),("tokens",.int x3)]
theorem pi_Stretch_pieces {x0:Addr}{x1:Bool}{x2:Int}{x3:Int}:putF "pieces" (.ref x0) ([]:List (Str × V))=[(("pieces" : Str),(.ref x0:V))]:=by kernel_rfl
theorem pi_Stretch_closed {x0:Addr}{x1:Bool}{x2:Int}{x3:Int}:putF "closed" (.bl x1) [(("pieces" : Str),(.ref x0:V))]=[(("pieces" : Str),(.ref x0:V)),(("closed" : Str),(.bl x1:V))]:=by kernel_rfl
theorem pi_Stretch_size {x0:Addr}{x1:Bool}{x2:Int}{x3:Int}:putF "size" (.int x2) [(("pieces" : Str),(.ref x0:V)),(("closed" : Str),(.bl x1:V))]=[(("pieces" : Str),(.ref x0:V)),(("closed" : Str),(.bl x1:V)),(("size" : Str),(.int x2:V))]:=by kernel_rfl
theorem pi_Stretch_tokens {x0:Addr}{x1:Bool}{x2:Int}{x3:Int}:putF "tokens" (.int x3) [(("pieces" : Str),(.ref x0:V)),(("closed" : Str),(.bl x1:V)),(("size" : Str),(.int x2:V))]=[(("pieces" : Str),(.ref x0:V)),(("closed" : Str),(.bl x1:V)),(("size" : Str),(.int x2:V)),(("tokens" : Str),(.int x3:V))]:=by kernel_rfl
theorem lk_Stretch_pieces {x0:Addr}{x1:Bool}{x2:Int}{x3:Int}:(fStretch x0 x1 x2 x3).lookup ("pieces" : Str)=some (.ref x0):=by kernel_rfl
theorem rf_Stretch_pieces (g:Pg K mg) {a dx:Addr}{x0:Addr}{x1:Bool}{x2:Int}{x3:Int} (h:H a=some (.ins g.Stretch.C dx (fStretch x0 x1 x2 x3))) (q:Q (.ref x0)) :
    ∃ a' C' dx' fs' v',V.ref a = .ref a'∧H a'=some (.ins C' dx' fs')∧Cls K C'∧NoAttr K C' "pieces" ∧ fs'.lookup ("pieces" : Str)=some v'∧Q v':=fld h g.Stretch.cl (g.Stretch.na _ (by decide +kernel)) lk_Stretch_pieces q
theorem lk_Stretch_closed {x0:Addr}{x1:Bool}{x2:Int}{x3:Int}:(fStretch x0 x1 x2 x3).lookup ("closed" : Str)=some (.bl x1):=by kernel_rfl
theorem rf_Stretch_closed (g:Pg K mg) {a dx:Addr}{x0:Addr}{x1:Bool}{x2:Int}{x3:Int} (h:H a=some (.ins g.Stretch.C dx (fStretch x0 x1 x2 x3))) (q:Q (.bl x1)) :
    ∃ a' C' dx' fs' v',V.ref a = .ref a'∧H a'=some (.ins C' dx' fs')∧Cls K C'∧NoAttr K C' "closed" ∧ fs'.lookup ("closed" : Str)=some v'∧Q v':=fld h g.Stretch.cl (g.Stretch.na _ (by decide +kernel)) lk_Stretch_closed q
theorem lk_Stretch_size {x0:Addr}{x1:Bool}{x2:Int}{x3:Int}:(fStretch x0 x1 x2 x3).lookup ("size" : Str)=some (.int x2):=by kernel_rfl
theorem rf_Stretch_size (g:Pg K mg) {a dx:Addr}{x0:Addr}{x1:Bool}{x2:Int}{x3:Int} (h:H a=some (.ins g.Stretch.C dx (fStretch x0 x1 x2 x3))) (q:Q (.int x2)) :
    ∃ a' C' dx' fs' v',V.ref a = .ref a'∧H a'=some (.ins C' dx' fs')∧Cls K C'∧NoAttr K C' "size" ∧ fs'.lookup ("size" : Str)=some v'∧Q v':=fld h g.Stretch.cl (g.Stretch.na _ (by decide +kernel)) lk_Stretch_size q
theorem lk_Stretch_tokens {x0:Addr}{x1:Bool}{x2:Int}{x3:Int}:(fStretch x0 x1 x2 x3).lookup ("tokens" : Str)=some (.int x3):=by kernel_rfl
theorem rf_Stretch_tokens (g:Pg K mg) {a dx:Addr}{x0:Addr}{x1:Bool}{x2:Int}{x3:Int} (h:H a=some (.ins g.Stretch.C dx (fStretch x0 x1 x2 x3))) (q:Q (.int x3)) :
    ∃ a' C' dx' fs' v',V.ref a = .ref a'∧H a'=some (.ins C' dx' fs')∧Cls K C'∧NoAttr K C' "tokens" ∧ fs'.lookup ("tokens" : Str)=some v'∧Q v':=fld h g.Stretch.cl (g.Stretch.na _ (by decide +kernel)) lk_Stretch_tokens q
def fCut (x0:Addr) (x1:Addr) (x2:Int):List (Str × V):=[("text",.ref x0),("stretches",.ref x1),("fresh",.int x2)]
theorem pi_Cut_text {x0:Addr}{x1:Addr}{x2:Int}:putF "text" (.ref x0) ([]:List (Str × V))=[(("text" : Str),(.ref x0:V))]:=by kernel_rfl
theorem pi_Cut_stretches {x0:Addr}{x1:Addr}{x2:Int}:putF "stretches" (.ref x1) [(("text" : Str),(.ref x0:V))]=[(("text" : Str),(.ref x0:V)),(("stretches" : Str),(.ref x1:V))]:=by kernel_rfl
theorem pi_Cut_fresh {x0:Addr}{x1:Addr}{x2:Int}:putF "fresh" (.int x2) [(("text" : Str),(.ref x0:V)),(("stretches" : Str),(.ref x1:V))]=[(("text" : Str),(.ref x0:V)),(("stretches" : Str),(.ref x1:V)),(("fresh" : Str),(.int x2:V))]:=by kernel_rfl
theorem lk_Cut_text {x0:Addr}{x1:Addr}{x2:Int}:(fCut x0 x1 x2).lookup ("text" : Str)=some (.ref x0):=by kernel_rfl
theorem rf_Cut_text (g:Pg K mg) {a dx:Addr}{x0:Addr}{x1:Addr}{x2:Int} (h:H a=some (.ins g.Cut.C dx (fCut x0 x1 x2))) (q:Q (.ref x0)) :
    ∃ a' C' dx' fs' v',V.ref a = .ref a'∧H a'=some (.ins C' dx' fs')∧Cls K C'∧NoAttr K C' "text" ∧ fs'.lookup ("text" : Str)=some v'∧Q v':=fld h g.Cut.cl (g.Cut.na _ (by decide +kernel)) lk_Cut_text q
theorem lk_Cut_stretches {x0:Addr}{x1:Addr}{x2:Int}:(fCut x0 x1 x2).lookup ("stretches" : Str)=some (.ref x1):=by kernel_rfl
theorem rf_Cut_stretches (g:Pg K mg) {a dx:Addr}{x0:Addr}{x1:Addr}{x2:Int} (h:H a=some (.ins g.Cut.C dx (fCut x0 x1 x2))) (q:Q (.ref x1)) :
    ∃ a' C' dx' fs' v',V.ref a = .ref a'∧H a'=some (.ins C' dx' fs')∧Cls K C'∧NoAttr K C' "stretches" ∧ fs'.lookup ("stretches" : Str)=some v'∧Q v':=fld h g.Cut.cl (g.Cut.na _ (by decide +kernel)) lk_Cut_stretches q
theorem lk_Cut_fresh {x0:Addr}{x1:Addr}{x2:Int}:(fCut x0 x1 x2).lookup ("fresh" : Str)=some (.int x2):=by kernel_rfl
theorem rf_Cut_fresh (g:Pg K mg) {a dx:Addr}{x0:Addr}{x1:Addr}{x2:Int} (h:H a=some (.ins g.Cut.C dx (fCut x0 x1 x2))) (q:Q (.int x2)) :
    ∃ a' C' dx' fs' v',V.ref a = .ref a'∧H a'=some (.ins C' dx' fs')∧Cls K C'∧NoAttr K C' "fresh" ∧ fs'.lookup ("fresh" : Str)=some v'∧Q v':=fld h g.Cut.cl (g.Cut.na _ (by decide +kernel)) lk_Cut_fresh q
def fComment (x0:Addr) (x1:Int):List (Str × V):=[("row",.ref x0),("gap",.int x1)]
theorem pi_Comment_row {x0:Addr}{x1:Int}:putF "row" (.ref x0) ([]:List (Str × V))=[(("row" : Str),(.ref x0:V))]:=by kernel_rfl
theorem pi_Comment_gap {x0:Addr}{x1:Int}:putF "gap" (.int x1) [(("row" : Str),(.ref x0:V))]=[(("row" : Str),(.ref x0:V)),(("gap" : Str),(.int x1:V))]:=by kernel_rfl
theorem lk_Comment_row {x0:Addr}{x1:Int}:(fComment x0 x1).lookup ("row" : Str)=some (.ref x0):=by kernel_rfl
theorem rf_Comment_row (g:Pg K mg) {a dx:Addr}{x0:Addr}{x1:Int} (h:H a=some (.ins g.Comment.C dx (fComment x0 x1))) (q:Q (.ref x0)) :
    ∃ a' C' dx' fs' v',V.ref a = .ref a'∧H a'=some (.ins C' dx' fs')∧Cls K C'∧NoAttr K C' "row" ∧ fs'.lookup ("row" : Str)=some v'∧Q v':=fld h g.Comment.cl (g.Comment.na _ (by decide +kernel)) lk_Comment_row q
theorem lk_Comment_gap {x0:Addr}{x1:Int}:(fComment x0 x1).lookup ("gap" : Str)=some (.int x1):=by kernel_rfl
theorem rf_Comment_gap (g:Pg K mg) {a dx:Addr}{x0:Addr}{x1:Int} (h:H a=some (.ins g.Comment.C dx (fComment x0 x1))) (q:Q (.int x1)) :
    ∃ a' C' dx' fs' v',V.ref a = .ref a'∧H a'=some (.ins C' dx' fs')∧Cls K C'∧NoAttr K C' "gap" ∧ fs'.lookup ("gap" : Str)=some v'∧Q v':=fld h g.Comment.cl (g.Comment.na _ (by decide +kernel)) lk_Comment_gap q
def fToken (x0:Int) (x1:Int) (x2:Addr) (x3:Int) (x4:Addr) (x5:V):List (Str × V):=[("kind",.int x0),("begin",.int x1),("row",.ref x2),("gap",.int x3),("leading",.ref x4),("behind",x5)]
theorem pi_Token_kind {x0:Int}{x1:Int}{x2:Addr}{x3:Int}{x4:Addr}{x5:V}:putF "kind" (.int x0) ([]:List (Str × V))=[(("kind" : Str),(.int x0:V))]:=by kernel_rfl
theorem pi_Token_begin {x0:Int}{x1:Int}{x2:Addr}{x3:Int}{x4:Addr}{x5:V}:putF "begin" (.int x1) [(("kind" : Str),(.int x0:V))]=[(("kind" : Str),(.int x0:V)),(("begin" : Str),(.int x1:V))]:=by kernel_rfl
theorem pi_Token_row {x0:Int}{x1:Int}{x2:Addr}{x3:Int}{x4:Addr}{x5:V}:putF "row" (.ref x2) [(("kind" : Str),(.int x0:V)),(("begin" : Str),(.int x1:V))]=[(("kind" : Str),(.int x0:V)),(("begin" : Str),(.int x1:V)),(("row" : Str),(.ref x2:V))]:=by kernel_rfl
theorem pi_Token_gap {x0:Int}{x1:Int}{x2:Addr}{x3:Int}{x4:Addr}{x5:V}:putF "gap" (.int x3) [(("kind" : Str),(.int x0:V)),(("begin" : Str),(.int x1:V)),(("row" : Str),(.ref x2:V))]=[(("kind" : Str),(.int x0:V)),(("begin" : Str),(.int x1:V)),(("row" : Str),(.ref x2:V)),(("gap" : Str),(.int x3:V))]:=by kernel_rfl
theorem pi_Token_leading {x0:Int}{x1:Int}{x2:Addr}{x3:Int}{x4:Addr}{x5:V}:putF "leading" (.ref x4) [(("kind" : Str),(.int x0:V)),(("begin" : Str),(.int x1:V)),(("row" : Str),(.ref x2:V)),(("gap" : Str),(.int x3:V))]=[(("kind" : Str),(.int x0:V)),(("begin" : Str),(.int x1:V)),(("row" : Str),(.ref x2:V)),(("gap" : Str),(.int x3:V)),(("leading" : Str),(.ref x4:V))]:=by kernel_rfl
theorem pi_Token_behind {x0:Int}{x1:Int}{x2:Addr}{x3:Int}{x4:Addr}{x5:V}:putF "behind" (x5) [(("kind" : Str),(.int x0:V)),(("begin" : Str),(.int x1:V)),(("row" : Str),(.ref x2:V)),(("gap" : Str),(.int x3:V)),(("leading" : Str),(.ref x4:V))]=[(("kind" : Str),(.int x0:V)),(("begin" : Str),(.int x1:V)),(("row" : Str),(.ref x2:V)),(("gap" : Str),(.int x3:V)),(("leading" : Str),(.ref x4:V)),(("behind" : Str),(x5:V))]:=by kernel_rfl
theorem lk_Token_kind {x0:Int}{x1:Int}{x2:Addr}{x3:Int}{x4:Addr}{x5:V}:(fToken x0 x1 x2 x3 x4 x5).lookup ("kind" : Str)=some (.int x0):=by kernel_rfl
theorem rf_Token_kind (g:Pg K mg) {a dx:Addr}{x0:Int}{x1:Int}{x2:Addr}{x3:Int}{x4:Addr}{x5:V} (h:H a=some (.ins g.Token.C dx (fToken x0 x1 x2 x3 x4 x5))) (q:Q (.int x0)) :
    ∃ a' C' dx' fs' v',V.ref a = .ref a'∧H a'=some (.ins C' dx' fs')∧Cls K C'∧NoAttr K C' "kind" ∧ fs'.lookup ("kind" : Str)=some v'∧Q v':=fld h g.Token.cl (g.Token.na _ (by decide +kernel)) lk_Token_kind q
theorem lk_Token_begin {x0:Int}{x1:Int}{x2:Addr}{x3:Int}{x4:Addr}{x5:V}:(fToken x0 x1 x2 x3 x4 x5).lookup ("begin" : Str)=some (.int x1):=by kernel_rfl
theorem rf_Token_begin (g:Pg K mg) {a dx:Addr}{x0:Int}{x1:Int}{x2:Addr}{x3:Int}{x4:Addr}{x5:V} (h:H a=some (.ins g.Token.C dx (fToken x0 x1 x2 x3 x4 x5))) (q:Q (.int x1)) :
    ∃ a' C' dx' fs' v',V.ref a = .ref a'∧H a'=some (.ins C' dx' fs')∧Cls K C'∧NoAttr K C' "begin" ∧ fs'.lookup ("begin" : Str)=some v'∧Q v':=fld h g.Token.cl (g.Token.na _ (by decide +kernel)) lk_Token_begin q
theorem lk_Token_row {x0:Int}{x1:Int}{x2:Addr}{x3:Int}{x4:Addr}{x5:V}:(fToken x0 x1 x2 x3 x4 x5).lookup ("row" : Str)=some (.ref x2):=by kernel_rfl
theorem rf_Token_row (g:Pg K mg) {a dx:Addr}{x0:Int}{x1:Int}{x2:Addr}{x3:Int}{x4:Addr}{x5:V} (h:H a=some (.ins g.Token.C dx (fToken x0 x1 x2 x3 x4 x5))) (q:Q (.ref x2)) :
    ∃ a' C' dx' fs' v',V.ref a = .ref a'∧H a'=some (.ins C' dx' fs')∧Cls K C'∧NoAttr K C' "row" ∧ fs'.lookup ("row" : Str)=some v'∧Q v':=fld h g.Token.cl (g.Token.na _ (by decide +kernel)) lk_Token_row q
theorem lk_Token_gap {x0:Int}{x1:Int}{x2:Addr}{x3:Int}{x4:Addr}{x5:V}:(fToken x0 x1 x2 x3 x4 x5).lookup ("gap" : Str)=some (.int x3):=by kernel_rfl
theorem rf_Token_gap (g:Pg K mg) {a dx:Addr}{x0:Int}{x1:Int}{x2:Addr}{x3:Int}{x4:Addr}{x5:V} (h:H a=some (.ins g.Token.C dx (fToken x0 x1 x2 x3 x4 x5))) (q:Q (.int x3)) :
    ∃ a' C' dx' fs' v',V.ref a = .ref a'∧H a'=some (.ins C' dx' fs')∧Cls K C'∧NoAttr K C' "gap" ∧ fs'.lookup ("gap" : Str)=some v'∧Q v':=fld h g.Token.cl (g.Token.na _ (by decide +kernel)) lk_Token_gap q
theorem lk_Token_leading {x0:Int}{x1:Int}{x2:Addr}{x3:Int}{x4:Addr}{x5:V}:(fToken x0 x1 x2 x3 x4 x5).lookup ("leading" : Str)=some (.ref x4):=by kernel_rfl
theorem rf_Token_leading (g:Pg K mg) {a dx:Addr}{x0:Int}{x1:Int}{x2:Addr}{x3:Int}{x4:Addr}{x5:V} (h:H a=some (.ins g.Token.C dx (fToken x0 x1 x2 x3 x4 x5))) (q:Q (.ref x4)) :
    ∃ a' C' dx' fs' v',V.ref a = .ref a'∧H a'=some (.ins C' dx' fs')∧Cls K C'∧NoAttr K C' "leading" ∧ fs'.lookup ("leading" : Str)=some v'∧Q v':=fld h g.Token.cl (g.Token.na _ (by decide +kernel)) lk_Token_leading q
theorem lk_Token_behind {x0:Int}{x1:Int}{x2:Addr}{x3:Int}{x4:Addr}{x5:V}:(fToken x0 x1 x2 x3 x4 x5).lookup ("behind" : Str)=some (x5):=by kernel_rfl
theorem pf_Token_behind {x0:Int}{x1:Int}{x2:Addr}{x3:Int}{x4:Addr}{x5:V}{y:V}:putF "behind" (y) (fToken x0 x1 x2 x3 x4 x5)=fToken x0 x1 x2 x3 x4 y:=by kernel_rfl
theorem rf_Token_behind (g:Pg K mg) {a dx:Addr}{x0:Int}{x1:Int}{x2:Addr}{x3:Int}{x4:Addr}{x5:V} (h:H a=some (.ins g.Token.C dx (fToken x0 x1 x2 x3 x4 x5))) (q:Q (x5)) :
    ∃ a' C' dx' fs' v',V.ref a = .ref a'∧H a'=some (.ins C' dx' fs')∧Cls K C'∧NoAttr K C' "behind" ∧ fs'.lookup ("behind" : Str)=some v'∧Q v':=fld h g.Token.cl (g.Token.na _ (by decide +kernel)) lk_Token_behind q
theorem rs_Token_behind (g:Pg K mg) {a dx:Addr}{x0:Int}{x1:Int}{x2:Addr}{x3:Int}{x4:Addr}{x5:V}{y:V}{R:Hp->Prop} (h:H a=some (.ins g.Token.C dx (fToken x0 x1 x2 x3 x4 x5))) (q:R (upd H a (.ins g.Token.C dx (fToken x0 x1 x2 x3 x4 y)))) :
    ∃ a' C' dx' fs',V.ref a = .ref a'∧H a'=some (.ins C' dx' fs')∧Cls K C'∧NoAttr K C' "behind" ∧ fs'.length < 1000∧R (upd H a' (.ins C' dx' (putF "behind" (y) fs'))):=fsto h g.Token.cl (g.Token.na _ (by decide +kernel)) (show 6 < 1000 by decide) pf_Token_behind q
def fThings (x0:Addr) (x1:Addr) (x2:Int) (x3:Bool):List (Str × V):=[("tokens",.ref x0),("waiting",.ref x1),("line_ends",.int x2),("begun",.bl x3)]
theorem pi_Things_tokens {x0:Addr}{x1:Addr}{x2:Int}{x3:Bool}:putF "tokens" (.ref x0) ([]:List (Str × V))=[(("tokens" : Str),(.ref x0:V))]:=by kernel_rfl
theorem pi_Things_waiting {x0:Addr}{x1:Addr}{x2:Int}{x3:Bool}:putF "waiting" (.ref x1) [(("tokens" : Str),(.ref x0:V))]=[(("tokens" : Str),(.ref x0:V)),(("waiting" : Str),(.ref x1:V))]:=by kernel_rfl
theorem pi_Things_line_ends {x0:Addr}{x1:Addr}{x2:Int}{x3:Bool}:putF "line_ends" (.int x2) [(("tokens" : Str),(.ref x0:V)),(("waiting" : Str),(.ref x1:V))]=[(("tokens" : Str),(.ref x0:V)),(("waiting" : Str),(.ref x1:V)),(("line_ends" : Str),(.int x2:V))]:=by kernel_rfl
theorem pi_Things_begun {x0:Addr}{x1:Addr}{x2:Int}{x3:Bool}:putF "begun" (.bl x3) [(("tokens" : Str),(.ref x0:V)),(("waiting" : Str),(.ref x1:V)),(("line_ends" : Str),(.int x2:V))]=[(("tokens" : Str),(.ref x0:V)),(("waiting" : Str),(.ref x1:V)),(("line_ends" : Str),(.int x2:V)),(("begun" : Str),(.bl x3:V))]:=by kernel_rfl
theorem lk_Things_tokens {x0:Addr}{x1:Addr}{x2:Int}{x3:Bool}:(fThings x0 x1 x2 x3).lookup ("tokens" : Str)=some (.ref x0):=by kernel_rfl
theorem rf_Things_tokens (g:Pg K mg) {a dx:Addr}{x0:Addr}{x1:Addr}{x2:Int}{x3:Bool} (h:H a=some (.ins g.Things.C dx (fThings x0 x1 x2 x3))) (q:Q (.ref x0)) :
    ∃ a' C' dx' fs' v',V.ref a = .ref a'∧H a'=some (.ins C' dx' fs')∧Cls K C'∧NoAttr K C' "tokens" ∧ fs'.lookup ("tokens" : Str)=some v'∧Q v':=fld h g.Things.cl (g.Things.na _ (by decide +kernel)) lk_Things_tokens q
theorem lk_Things_waiting {x0:Addr}{x1:Addr}{x2:Int}{x3:Bool}:(fThings x0 x1 x2 x3).lookup ("waiting" : Str)=some (.ref x1):=by kernel_rfl
theorem pf_Things_waiting {x0:Addr}{x1:Addr}{x2:Int}{x3:Bool}{y:Addr}:putF "waiting" (.ref y) (fThings x0 x1 x2 x3)=fThings x0 y x2 x3:=by kernel_rfl
theorem rf_Things_waiting (g:Pg K mg) {a dx:Addr}{x0:Addr}{x1:Addr}{x2:Int}{x3:Bool} (h:H a=some (.ins g.Things.C dx (fThings x0 x1 x2 x3))) (q:Q (.ref x1)) :
    ∃ a' C' dx' fs' v',V.ref a = .ref a'∧H a'=some (.ins C' dx' fs')∧Cls K C'∧NoAttr K C' "waiting" ∧ fs'.lookup ("waiting" : Str)=some v'∧Q v':=fld h g.Things.cl (g.Things.na _ (by decide +kernel)) lk_Things_waiting q
theorem rs_Things_waiting (g:Pg K mg) {a dx:Addr}{x0:Addr}{x1:Addr}{x2:Int}{x3:Bool}{y:Addr}{R:Hp->Prop} (h:H a=some (.ins g.Things.C dx (fThings x0 x1 x2 x3))) (q:R (upd H a (.ins g.Things.C dx (fThings x0 y x2 x3)))) :
    ∃ a' C' dx' fs',V.ref a = .ref a'∧H a'=some (.ins C' dx' fs')∧Cls K C'∧NoAttr K C' "waiting" ∧ fs'.length < 1000∧R (upd H a' (.ins C' dx' (putF "waiting" (.ref y) fs'))):=fsto h g.Things.cl (g.Things.na _ (by decide +kernel)) (show 4 < 1000 by decide) pf_Things_waiting q
theorem lk_Things_line_ends {x0:Addr}{x1:Addr}{x2:Int}{x3:Bool}:(fThings x0 x1 x2 x3).lookup ("line_ends" : Str)=some (.int x2):=by kernel_rfl
theorem pf_Things_line_ends {x0:Addr}{x1:Addr}{x2:Int}{x3:Bool}{y:Int}:putF "line_ends" (.int y) (fThings x0 x1 x2 x3)=fThings x0 x1 y x3:=by kernel_rfl
theorem rf_Things_line_ends (g:Pg K mg) {a dx:Addr}{x0:Addr}{x1:Addr}{x2:Int}{x3:Bool} (h:H a=some (.ins g.Things.C dx (fThings x0 x1 x2 x3))) (q:Q (.int x2)) :
    ∃ a' C' dx' fs' v',V.ref a = .ref a'∧H a'=some (.ins C' dx' fs')∧Cls K C'∧NoAttr K C' "line_ends" ∧ fs'.lookup ("line_ends" : Str)=some v'∧Q v':=fld h g.Things.cl (g.Things.na _ (by decide +kernel)) lk_Things_line_ends q
theorem rs_Things_line_ends (g:Pg K mg) {a dx:Addr}{x0:Addr}{x1:Addr}{x2:Int}{x3:Bool}{y:Int}{R:Hp->Prop} (h:H a=some (.ins g.Things.C dx (fThings x0 x1 x2 x3))) (q:R (upd H a (.ins g.Things.C dx (fThings x0 x1 y x3)))) :
    ∃ a' C' dx' fs',V.ref a = .ref a'∧H a'=some (.ins C' dx' fs')∧Cls K C'∧NoAttr K C' "line_ends" ∧ fs'.length < 1000∧R (upd H a' (.ins C' dx' (putF "line_ends" (.int y) fs'))):=fsto h g.Things.cl (g.Things.na _ (by decide +kernel)) (show 4 < 1000 by decide) pf_Things_line_ends q
theorem lk_Things_begun {x0:Addr}{x1:Addr}{x2:Int}{x3:Bool}:(fThings x0 x1 x2 x3).lookup ("begun" : Str)=some (.bl x3):=by kernel_rfl
theorem pf_Things_begun {x0:Addr}{x1:Addr}{x2:Int}{x3:Bool}{y:Bool}:putF "begun" (.bl y) (fThings x0 x1 x2 x3)=fThings x0 x1 x2 y:=by kernel_rfl
theorem rf_Things_begun (g:Pg K mg) {a dx:Addr}{x0:Addr}{x1:Addr}{x2:Int}{x3:Bool} (h:H a=some (.ins g.Things.C dx (fThings x0 x1 x2 x3))) (q:Q (.bl x3)) :
    ∃ a' C' dx' fs' v',V.ref a = .ref a'∧H a'=some (.ins C' dx' fs')∧Cls K C'∧NoAttr K C' "begun" ∧ fs'.lookup ("begun" : Str)=some v'∧Q v':=fld h g.Things.cl (g.Things.na _ (by decide +kernel)) lk_Things_begun q
theorem rs_Things_begun (g:Pg K mg) {a dx:Addr}{x0:Addr}{x1:Addr}{x2:Int}{x3:Bool}{y:Bool}{R:Hp->Prop} (h:H a=some (.ins g.Things.C dx (fThings x0 x1 x2 x3))) (q:R (upd H a (.ins g.Things.C dx (fThings x0 x1 x2 y)))) :
    ∃ a' C' dx' fs',V.ref a = .ref a'∧H a'=some (.ins C' dx' fs')∧Cls K C'∧NoAttr K C' "begun" ∧ fs'.length < 1000∧R (upd H a' (.ins C' dx' (putF "begun" (.bl y) fs'))):=fsto h g.Things.cl (g.Things.na _ (by decide +kernel)) (show 4 < 1000 by decide) pf_Things_begun q
theorem rm_Things_take (g:Pg K mg) {a dx:Addr}{x0:Addr}{x1:Addr}{x2:Int}{x3:Bool}{R:Prop} (h:H a=some (.ins g.Things.C dx (fThings x0 x1 x2 x3))) (q:R) :
    ∃ a' dx' fs',V.ref a = .ref a'∧H a'=some (.ins g.Things.C dx' fs')∧fs'.lookup ("take" : Str)=none∧R:=mth h (by kernel_rfl) q
theorem rm_Things_gap_here (g:Pg K mg) {a dx:Addr}{x0:Addr}{x1:Addr}{x2:Int}{x3:Bool}{R:Prop} (h:H a=some (.ins g.Things.C dx (fThings x0 x1 x2 x3))) (q:R) :
    ∃ a' dx' fs',V.ref a = .ref a'∧H a'=some (.ins g.Things.C dx' fs')∧fs'.lookup ("gap_here" : Str)=none∧R:=mth h (by kernel_rfl) q
theorem rm_Things_take_comment (g:Pg K mg) {a dx:Addr}{x0:Addr}{x1:Addr}{x2:Int}{x3:Bool}{R:Prop} (h:H a=some (.ins g.Things.C dx (fThings x0 x1 x2 x3))) (q:R) :
    ∃ a' dx' fs',V.ref a = .ref a'∧H a'=some (.ins g.Things.C dx' fs')∧fs'.lookup ("take_comment" : Str)=none∧R:=mth h (by kernel_rfl) q
theorem rm_Things_take_token (g:Pg K mg) {a dx:Addr}{x0:Addr}{x1:Addr}{x2:Int}{x3:Bool}{R:Prop} (h:H a=some (.ins g.Things.C dx (fThings x0 x1 x2 x3))) (q:R) :
    ∃ a' dx' fs',V.ref a = .ref a'∧H a'=some (.ins g.Things.C dx' fs')∧fs'.lookup ("take_token" : Str)=none∧R:=mth h (by kernel_rfl) q
theorem rm_Things_go_on (g:Pg K mg) {a dx:Addr}{x0:Addr}{x1:Addr}{x2:Int}{x3:Bool}{R:Prop} (h:H a=some (.ins g.Things.C dx (fThings x0 x1 x2 x3))) (q:R) :
    ∃ a' dx' fs',V.ref a = .ref a'∧H a'=some (.ins g.Things.C dx' fs')∧fs'.lookup ("go_on" : Str)=none∧R:=mth h (by kernel_rfl) q
def fWritten (x0:Addr) (x1:Addr) (x2:Addr) (x3:Int):List (Str × V):=[("text",.ref x0),("tokens",.ref x1),("begins",.ref x2),("open_quote",.int x3)]
theorem pi_Written_text {x0:Addr}{x1:Addr}{x2:Addr}{x3:Int}:putF "text" (.ref x0) ([]:List (Str × V))=[(("text" : Str),(.ref x0:V))]:=by kernel_rfl
theorem pi_Written_tokens {x0:Addr}{x1:Addr}{x2:Addr}{x3:Int}:putF "tokens" (.ref x1) [(("text" : Str),(.ref x0:V))]=[(("text" : Str),(.ref x0:V)),(("tokens" : Str),(.ref x1:V))]:=by kernel_rfl
theorem pi_Written_begins {x0:Addr}{x1:Addr}{x2:Addr}{x3:Int}:putF "begins" (.ref x2) [(("text" : Str),(.ref x0:V)),(("tokens" : Str),(.ref x1:V))]=[(("text" : Str),(.ref x0:V)),(("tokens" : Str),(.ref x1:V)),(("begins" : Str),(.ref x2:V))]:=by kernel_rfl
theorem pi_Written_open_quote {x0:Addr}{x1:Addr}{x2:Addr}{x3:Int}:putF "open_quote" (.int x3) [(("text" : Str),(.ref x0:V)),(("tokens" : Str),(.ref x1:V)),(("begins" : Str),(.ref x2:V))]=[(("text" : Str),(.ref x0:V)),(("tokens" : Str),(.ref x1:V)),(("begins" : Str),(.ref x2:V)),(("open_quote" : Str),(.int x3:V))]:=by kernel_rfl
theorem lk_Written_text {x0:Addr}{x1:Addr}{x2:Addr}{x3:Int}:(fWritten x0 x1 x2 x3).lookup ("text" : Str)=some (.ref x0):=by kernel_rfl
theorem rf_Written_text (g:Pg K mg) {a dx:Addr}{x0:Addr}{x1:Addr}{x2:Addr}{x3:Int} (h:H a=some (.ins g.Written.C dx (fWritten x0 x1 x2 x3))) (q:Q (.ref x0)) :
    ∃ a' C' dx' fs' v',V.ref a = .ref a'∧H a'=some (.ins C' dx' fs')∧Cls K C'∧NoAttr K C' "text" ∧ fs'.lookup ("text" : Str)=some v'∧Q v':=fld h g.Written.cl (g.Written.na _ (by decide +kernel)) lk_Written_text q
theorem lk_Written_tokens {x0:Addr}{x1:Addr}{x2:Addr}{x3:Int}:(fWritten x0 x1 x2 x3).lookup ("tokens" : Str)=some (.ref x1):=by kernel_rfl
theorem rf_Written_tokens (g:Pg K mg) {a dx:Addr}{x0:Addr}{x1:Addr}{x2:Addr}{x3:Int} (h:H a=some (.ins g.Written.C dx (fWritten x0 x1 x2 x3))) (q:Q (.ref x1)) :
    ∃ a' C' dx' fs' v',V.ref a = .ref a'∧H a'=some (.ins C' dx' fs')∧Cls K C'∧NoAttr K C' "tokens" ∧ fs'.lookup ("tokens" : Str)=some v'∧Q v':=fld h g.Written.cl (g.Written.na _ (by decide +kernel)) lk_Written_tokens q
theorem lk_Written_begins {x0:Addr}{x1:Addr}{x2:Addr}{x3:Int}:(fWritten x0 x1 x2 x3).lookup ("begins" : Str)=some (.ref x2):=by kernel_rfl
theorem rf_Written_begins (g:Pg K mg) {a dx:Addr}{x0:Addr}{x1:Addr}{x2:Addr}{x3:Int} (h:H a=some (.ins g.Written.C dx (fWritten x0 x1 x2 x3))) (q:Q (.ref x2)) :
    ∃ a' C' dx' fs' v',V.ref a = .ref a'∧H a'=some (.ins C' dx' fs')∧Cls K C'∧NoAttr K C' "begins" ∧ fs'.lookup ("begins" : Str)=some v'∧Q v':=fld h g.Written.cl (g.Written.na _ (by decide +kernel)) lk_Written_begins q
theorem lk_Written_open_quote {x0:Addr}{x1:Addr}{x2:Addr}{x3:Int}:(fWritten x0 x1 x2 x3).lookup ("open_quote" : Str)=some (.int x3):=by kernel_rfl
theorem pf_Written_open_quote {x0:Addr}{x1:Addr}{x2:Addr}{x3:Int}{y:Int}:putF "open_quote" (.int y) (fWritten x0 x1 x2 x3)=fWritten x0 x1 x2 y:=by kernel_rfl
theorem rf_Written_open_quote (g:Pg K mg) {a dx:Addr}{x0:Addr}{x1:Addr}{x2:Addr}{x3:Int} (h:H a=some (.ins g.Written.C dx (fWritten x0 x1 x2 x3))) (q:Q (.int x3)) :
    ∃ a' C' dx' fs' v',V.ref a = .ref a'∧H a'=some (.ins C' dx' fs')∧Cls K C'∧NoAttr K C' "open_quote" ∧ fs'.lookup ("open_quote" : Str)=some v'∧Q v':=fld h g.Written.cl (g.Written.na _ (by decide +kernel)) lk_Written_open_quote q
theorem rs_Written_open_quote (g:Pg K mg) {a dx:Addr}{x0:Addr}{x1:Addr}{x2:Addr}{x3:Int}{y:Int}{R:Hp->Prop} (h:H a=some (.ins g.Written.C dx (fWritten x0 x1 x2 x3))) (q:R (upd H a (.ins g.Written.C dx (fWritten x0 x1 x2 y)))) :
    ∃ a' C' dx' fs',V.ref a = .ref a'∧H a'=some (.ins C' dx' fs')∧Cls K C'∧NoAttr K C' "open_quote" ∧ fs'.length < 1000∧R (upd H a' (.ins C' dx' (putF "open_quote" (.int y) fs'))):=fsto h g.Written.cl (g.Written.na _ (by decide +kernel)) (show 4 < 1000 by decide) pf_Written_open_quote q
theorem rm_Written_put (g:Pg K mg) {a dx:Addr}{x0:Addr}{x1:Addr}{x2:Addr}{x3:Int}{R:Prop} (h:H a=some (.ins g.Written.C dx (fWritten x0 x1 x2 x3))) (q:R) :
    ∃ a' dx' fs',V.ref a = .ref a'∧H a'=some (.ins g.Written.C dx' fs')∧fs'.lookup ("put" : Str)=none∧R:=mth h (by kernel_rfl) q
theorem rm_Written_fits (g:Pg K mg) {a dx:Addr}{x0:Addr}{x1:Addr}{x2:Addr}{x3:Int}{R:Prop} (h:H a=some (.ins g.Written.C dx (fWritten x0 x1 x2 x3))) (q:R) :
    ∃ a' dx' fs',V.ref a = .ref a'∧H a'=some (.ins g.Written.C dx' fs')∧fs'.lookup ("fits" : Str)=none∧R:=mth h (by kernel_rfl) q
theorem rm_Written_first_unsure (g:Pg K mg) {a dx:Addr}{x0:Addr}{x1:Addr}{x2:Addr}{x3:Int}{R:Prop} (h:H a=some (.ins g.Written.C dx (fWritten x0 x1 x2 x3))) (q:R) :
    ∃ a' dx' fs',V.ref a = .ref a'∧H a'=some (.ins g.Written.C dx' fs')∧fs'.lookup ("first_unsure" : Str)=none∧R:=mth h (by kernel_rfl) q
theorem rm_Written_write (g:Pg K mg) {a dx:Addr}{x0:Addr}{x1:Addr}{x2:Addr}{x3:Int}{R:Prop} (h:H a=some (.ins g.Written.C dx (fWritten x0 x1 x2 x3))) (q:R) :
    ∃ a' dx' fs',V.ref a = .ref a'∧H a'=some (.ins g.Written.C dx' fs')∧fs'.lookup ("write" : Str)=none∧R:=mth h (by kernel_rfl) q
def fHeld (x0:Addr) (x1:Addr):List (Str × V):=[("now",.ref x0),("before",.ref x1)]
theorem pi_Held_now {x0:Addr}{x1:Addr}:putF "now" (.ref x0) ([]:List (Str × V))=[(("now" : Str),(.ref x0:V))]:=by kernel_rfl
theorem pi_Held_before {x0:Addr}{x1:Addr}:putF "before" (.ref x1) [(("now" : Str),(.ref x0:V))]=[(("now" : Str),(.ref x0:V)),(("before" : Str),(.ref x1:V))]:=by kernel_rfl
theorem lk_Held_now {x0:Addr}{x1:Addr}:(fHeld x0 x1).lookup ("now" : Str)=some (.ref x0):=by kernel_rfl
theorem pf_Held_now {x0:Addr}{x1:Addr}{y:Addr}:putF "now" (.ref y) (fHeld x0 x1)=fHeld y x1:=by kernel_rfl
theorem rf_Held_now (g:Pg K mg) {a dx:Addr}{x0:Addr}{x1:Addr} (h:H a=some (.ins g.Held.C dx (fHeld x0 x1))) (q:Q (.ref x0)) :
    ∃ a' C' dx' fs' v',V.ref a = .ref a'∧H a'=some (.ins C' dx' fs')∧Cls K C'∧NoAttr K C' "now" ∧ fs'.lookup ("now" : Str)=some v'∧Q v':=fld h g.Held.cl (g.Held.na _ (by decide +kernel)) lk_Held_now q
theorem rs_Held_now (g:Pg K mg) {a dx:Addr}{x0:Addr}{x1:Addr}{y:Addr}{R:Hp->Prop} (h:H a=some (.ins g.Held.C dx (fHeld x0 x1))) (q:R (upd H a (.ins g.Held.C dx (fHeld y x1)))) :
    ∃ a' C' dx' fs',V.ref a = .ref a'∧H a'=some (.ins C' dx' fs')∧Cls K C'∧NoAttr K C' "now" ∧ fs'.length < 1000∧R (upd H a' (.ins C' dx' (putF "now" (.ref y) fs'))):=fsto h g.Held.cl (g.Held.na _ (by decide +kernel)) (show 2 < 1000 by decide) pf_Held_now q
theorem lk_Held_before {x0:Addr}{x1:Addr}:(fHeld x0 x1).lookup ("before" : Str)=some (.ref x1):=by kernel_rfl
theorem pf_Held_before {x0:Addr}{x1:Addr}{y:Addr}:putF "before" (.ref y) (fHeld x0 x1)=fHeld x0 y:=by kernel_rfl
theorem rf_Held_before (g:Pg K mg) {a dx:Addr}{x0:Addr}{x1:Addr} (h:H a=some (.ins g.Held.C dx (fHeld x0 x1))) (q:Q (.ref x1)) :
    ∃ a' C' dx' fs' v',V.ref a = .ref a'∧H a'=some (.ins C' dx' fs')∧Cls K C'∧NoAttr K C' "before" ∧ fs'.lookup ("before" : Str)=some v'∧Q v':=fld h g.Held.cl (g.Held.na _ (by decide +kernel)) lk_Held_before q
theorem rs_Held_before (g:Pg K mg) {a dx:Addr}{x0:Addr}{x1:Addr}{y:Addr}{R:Hp->Prop} (h:H a=some (.ins g.Held.C dx (fHeld x0 x1))) (q:R (upd H a (.ins g.Held.C dx (fHeld x0 y)))) :
    ∃ a' C' dx' fs',V.ref a = .ref a'∧H a'=some (.ins C' dx' fs')∧Cls K C'∧NoAttr K C' "before" ∧ fs'.length < 1000∧R (upd H a' (.ins C' dx' (putF "before" (.ref y) fs'))):=fsto h g.Held.cl (g.Held.na _ (by decide +kernel)) (show 2 < 1000 by decide) pf_Held_before q
theorem rm_Held_load (g:Pg K mg) {a dx:Addr}{x0:Addr}{x1:Addr}{R:Prop} (h:H a=some (.ins g.Held.C dx (fHeld x0 x1))) (q:R) :
    ∃ a' dx' fs',V.ref a = .ref a'∧H a'=some (.ins g.Held.C dx' fs')∧fs'.lookup ("load" : Str)=none∧R:=mth h (by kernel_rfl) q
theorem rm_Held_edit (g:Pg K mg) {a dx:Addr}{x0:Addr}{x1:Addr}{R:Prop} (h:H a=some (.ins g.Held.C dx (fHeld x0 x1))) (q:R) :
    ∃ a' dx' fs',V.ref a = .ref a'∧H a'=some (.ins g.Held.C dx' fs')∧fs'.lookup ("edit" : Str)=none∧R:=mth h (by kernel_rfl) q
theorem rm_Held_undo (g:Pg K mg) {a dx:Addr}{x0:Addr}{x1:Addr}{R:Prop} (h:H a=some (.ins g.Held.C dx (fHeld x0 x1))) (q:R) :
    ∃ a' dx' fs',V.ref a = .ref a'∧H a'=some (.ins g.Held.C dx' fs')∧fs'.lookup ("undo" : Str)=none∧R:=mth h (by kernel_rfl) q
theorem rm_Held_tell_text (g:Pg K mg) {a dx:Addr}{x0:Addr}{x1:Addr}{R:Prop} (h:H a=some (.ins g.Held.C dx (fHeld x0 x1))) (q:R) :
    ∃ a' dx' fs',V.ref a = .ref a'∧H a'=some (.ins g.Held.C dx' fs')∧fs'.lookup ("tell_text" : Str)=none∧R:=mth h (by kernel_rfl) q
theorem rm_Held_tell_tokens (g:Pg K mg) {a dx:Addr}{x0:Addr}{x1:Addr}{R:Prop} (h:H a=some (.ins g.Held.C dx (fHeld x0 x1))) (q:R) :
    ∃ a' dx' fs',V.ref a = .ref a'∧H a'=some (.ins g.Held.C dx' fs')∧fs'.lookup ("tell_tokens" : Str)=none∧R:=mth h (by kernel_rfl) q
theorem rm_Held_tell_token (g:Pg K mg) {a dx:Addr}{x0:Addr}{x1:Addr}{R:Prop} (h:H a=some (.ins g.Held.C dx (fHeld x0 x1))) (q:R) :
    ∃ a' dx' fs',V.ref a = .ref a'∧H a'=some (.ins g.Held.C dx' fs')∧fs'.lookup ("tell_token" : Str)=none∧R:=mth h (by kernel_rfl) q
theorem rm_Held_tell_leads (g:Pg K mg) {a dx:Addr}{x0:Addr}{x1:Addr}{R:Prop} (h:H a=some (.ins g.Held.C dx (fHeld x0 x1))) (q:R) :
    ∃ a' dx' fs',V.ref a = .ref a'∧H a'=some (.ins g.Held.C dx' fs')∧fs'.lookup ("tell_leads" : Str)=none∧R:=mth h (by kernel_rfl) q
theorem rm_Held_tell_behind (g:Pg K mg) {a dx:Addr}{x0:Addr}{x1:Addr}{R:Prop} (h:H a=some (.ins g.Held.C dx (fHeld x0 x1))) (q:R) :
    ∃ a' dx' fs',V.ref a = .ref a'∧H a'=some (.ins g.Held.C dx' fs')∧fs'.lookup ("tell_behind" : Str)=none∧R:=mth h (by kernel_rfl) q
theorem rm_Held_tell_stretches (g:Pg K mg) {a dx:Addr}{x0:Addr}{x1:Addr}{R:Prop} (h:H a=some (.ins g.Held.C dx (fHeld x0 x1))) (q:R) :
    ∃ a' dx' fs',V.ref a = .ref a'∧H a'=some (.ins g.Held.C dx' fs')∧fs'.lookup ("tell_stretches" : Str)=none∧R:=mth h (by kernel_rfl) q
theorem rm_Held_tell_stretch (g:Pg K mg) {a dx:Addr}{x0:Addr}{x1:Addr}{R:Prop} (h:H a=some (.ins g.Held.C dx (fHeld x0 x1))) (q:R) :
    ∃ a' dx' fs',V.ref a = .ref a'∧H a'=some (.ins g.Held.C dx' fs')∧fs'.lookup ("tell_stretch" : Str)=none∧R:=mth h (by kernel_rfl) q
theorem rm_Held_tell_place (g:Pg K mg) {a dx:Addr}{x0:Addr}{x1:Addr}{R:Prop} (h:H a=some (.ins g.Held.C dx (fHeld x0 x1))) (q:R) :
    ∃ a' dx' fs',V.ref a = .ref a'∧H a'=some (.ins g.Held.C dx' fs')∧fs'.lookup ("tell_place" : Str)=none∧R:=mth h (by kernel_rfl) q
theorem rm_Held_tell_offset (g:Pg K mg) {a dx:Addr}{x0:Addr}{x1:Addr}{R:Prop} (h:H a=some (.ins g.Held.C dx (fHeld x0 x1))) (q:R) :
    ∃ a' dx' fs',V.ref a = .ref a'∧H a'=some (.ins g.Held.C dx' fs')∧fs'.lookup ("tell_offset" : Str)=none∧R:=mth h (by kernel_rfl) q
theorem rm_Held_tell_same (g:Pg K mg) {a dx:Addr}{x0:Addr}{x1:Addr}{R:Prop} (h:H a=some (.ins g.Held.C dx (fHeld x0 x1))) (q:R) :
    ∃ a' dx' fs',V.ref a = .ref a'∧H a'=some (.ins g.Held.C dx' fs')∧fs'.lookup ("tell_same" : Str)=none∧R:=mth h (by kernel_rfl) q
theorem rm_Held_tell_spaced (g:Pg K mg) {a dx:Addr}{x0:Addr}{x1:Addr}{R:Prop} (h:H a=some (.ins g.Held.C dx (fHeld x0 x1))) (q:R) :
    ∃ a' dx' fs',V.ref a = .ref a'∧H a'=some (.ins g.Held.C dx' fs')∧fs'.lookup ("tell_spaced" : Str)=none∧R:=mth h (by kernel_rfl) q
def fCalls (x0:Addr) (x1:Int):List (Str × V):=[("numbers",.ref x0),("place",.int x1)]
theorem pi_Calls_numbers {x0:Addr}{x1:Int}:putF "numbers" (.ref x0) ([]:List (Str × V))=[(("numbers" : Str),(.ref x0:V))]:=by kernel_rfl
theorem pi_Calls_place {x0:Addr}{x1:Int}:putF "place" (.int x1) [(("numbers" : Str),(.ref x0:V))]=[(("numbers" : Str),(.ref x0:V)),(("place" : Str),(.int x1:V))]:=by kernel_rfl
theorem lk_Calls_numbers {x0:Addr}{x1:Int}:(fCalls x0 x1).lookup ("numbers" : Str)=some (.ref x0):=by kernel_rfl
theorem rf_Calls_numbers (g:Pg K mg) {a dx:Addr}{x0:Addr}{x1:Int} (h:H a=some (.ins g.Calls.C dx (fCalls x0 x1))) (q:Q (.ref x0)) :
    ∃ a' C' dx' fs' v',V.ref a = .ref a'∧H a'=some (.ins C' dx' fs')∧Cls K C'∧NoAttr K C' "numbers" ∧ fs'.lookup ("numbers" : Str)=some v'∧Q v':=fld h g.Calls.cl (g.Calls.na _ (by decide +kernel)) lk_Calls_numbers q
theorem lk_Calls_place {x0:Addr}{x1:Int}:(fCalls x0 x1).lookup ("place" : Str)=some (.int x1):=by kernel_rfl
theorem pf_Calls_place {x0:Addr}{x1:Int}{y:Int}:putF "place" (.int y) (fCalls x0 x1)=fCalls x0 y:=by kernel_rfl
theorem rf_Calls_place (g:Pg K mg) {a dx:Addr}{x0:Addr}{x1:Int} (h:H a=some (.ins g.Calls.C dx (fCalls x0 x1))) (q:Q (.int x1)) :
    ∃ a' C' dx' fs' v',V.ref a = .ref a'∧H a'=some (.ins C' dx' fs')∧Cls K C'∧NoAttr K C' "place" ∧ fs'.lookup ("place" : Str)=some v'∧Q v':=fld h g.Calls.cl (g.Calls.na _ (by decide +kernel)) lk_Calls_place q
theorem rm_Calls_more (g:Pg K mg) {a dx:Addr}{x0:Addr}{x1:Int}{R:Prop} (h:H a=some (.ins g.Calls.C dx (fCalls x0 x1))) (q:R) :
    ∃ a' dx' fs',V.ref a = .ref a'∧H a'=some (.ins g.Calls.C dx' fs')∧fs'.lookup ("more" : Str)=none∧R:=mth h (by kernel_rfl) q
theorem rm_Calls_take_number (g:Pg K mg) {a dx:Addr}{x0:Addr}{x1:Int}{R:Prop} (h:H a=some (.ins g.Calls.C dx (fCalls x0 x1))) (q:R) :
    ∃ a' dx' fs',V.ref a = .ref a'∧H a'=some (.ins g.Calls.C dx' fs')∧fs'.lookup ("take_number" : Str)=none∧R:=mth h (by kernel_rfl) q
theorem rm_Calls_take_row (g:Pg K mg) {a dx:Addr}{x0:Addr}{x1:Int}{R:Prop} (h:H a=some (.ins g.Calls.C dx (fCalls x0 x1))) (q:R) :
    ∃ a' dx' fs',V.ref a = .ref a'∧H a'=some (.ins g.Calls.C dx' fs')∧fs'.lookup ("take_row" : Str)=none∧R:=mth h (by kernel_rfl) q
end
end Cb
end
section
set_option maxRecDepth 100000
set_option maxHeartbeats 4000000
namespace Cb
open PySem PySem.Spec PyProof.Rows L2
open Cm (bi)
theorem same_new {H:Hp}{p:Addr}{o:HO} (h:H p=none):Same H (upd H p o):=fun b u e=>by
  rw [upd_ne (ne_of_none e h)]
  exact e
theorem same_new2 {H:Hp}{x dx:Addr}{o u:HO} (nx:H x=none) (nd:H dx=none):Same H (upd (upd H dx u) x o):=fun b z e=>by
  rw [upd_ne (ne_of_none e nx),upd_ne (ne_of_none e nd)]
  exact e
theorem same_upd {H H1:Hp}{p:Addr}{o:HO} (s:Same H H1) (h:H p=none):Same H (upd H1 p o):=fun b u e=>by
  rw [upd_ne (ne_of_none e h)]
  exact s b u e
def But (p:Addr) (H H':Hp):Prop:=∀ b o,H b=some o->b ≠ p->H' b=some o
theorem But.refl (p:Addr) (H:Hp):But p H H:=fun _ _ h _=>h
theorem But.trans {p:Addr}{H H1 H2:Hp} (a:But p H H1) (b:But p H1 H2):But p H H2:=fun c o h n=>b c o (a c o h n) n
theorem But.of {p:Addr}{H H':Hp} (s:Same H H'):But p H H':=fun b o h _=>s b o h
theorem But.upd {p:Addr}{H:Hp}{o:HO}:But p H (upd H p o):=fun b u e n=>by rw [upd_ne n]; exact e
theorem But.same {p:Addr}{H0 H H':Hp} (s:Same H0 H) (n:H0 p=none) (b:But p H H'):Same H0 H':=fun c o h=>b c o (s c o h) (ne_of_none h n)
def bV (t:Vafmta.Bytes):List V:=t.map fun b=>V.int (bi b)
theorem bV_len (t:Vafmta.Bytes):(bV t).length=t.length:=List.length_map ..
theorem bV_get {t:Vafmta.Bytes}{n:Nat}{b:UInt8} (h:t[n]?=some b):(bV t)[n]?=some (.int (bi b)):=by
  unfold bV
  rw [List.getElem?_map,h]
  rfl
theorem bV_at {t:Vafmta.Bytes}{n:Nat}{b:UInt8} (h:t[n]?=some b):atI (bV t) (n:Int)=some (.int (bi b)):=atI_nat (bV_get h)
theorem bV_append (a b:Vafmta.Bytes):bV (a ++ b)=bV a ++ bV b:=List.map_append ..
theorem bV_take (t:Vafmta.Bytes) (n:Nat):(bV t).take n=bV (t.take n):=List.map_take.symm
theorem bV_drop (t:Vafmta.Bytes) (n:Nat):(bV t).drop n=bV (t.drop n):=List.map_drop.symm
theorem int_eq {i j:Int} (h:decide (V.int i=V.int j)=true):i=j:=V.int.inj (of_decide_eq_true h)
theorem int_ne {i j:Int} (h:¬ decide (V.int i=V.int j)=true):i ≠ j:=fun e=>h (decide_eq_true (congrArg V.int e))
theorem byte_is {b:UInt8}{k:Nat} (hk:k < 256) (h:bi b=(k:Int)):b=UInt8.ofNat k:=(Cm.bi_eq b k hk).mp h
theorem byte_not {b:UInt8}{k:Nat} (hk:k < 256) (h:bi b ≠ (k:Int)):b ≠ UInt8.ofNat k:=fun e=>h ((Cm.bi_eq b k hk).mpr e)
theorem cut_mid {xs:List V}{a b:Nat} (h:a ≤ b) (hb:b ≤ xs.length):cutV xs (some (a:Int)) (some (b:Int))=(xs.drop a).take (b - a):=by
  unfold cutV HT.sIx
  simp only
  rw [if_neg (by omega),if_neg (by omega),Int.toNat_natCast,Int.toNat_natCast,Nat.min_eq_left (show a ≤ xs.length by omega),Nat.min_eq_left hb]
theorem cut_left {xs:List V}{b:Nat} (hb:b ≤ xs.length):cutV xs none (some (b:Int))=xs.take b:=by
  unfold cutV HT.sIx
  simp only
  rw [if_neg (by omega),Int.toNat_natCast,Nat.min_eq_left hb,List.drop_zero,Nat.sub_zero]
theorem cut_right {xs:List V}{a:Nat} (ha:a ≤ xs.length):cutV xs (some (a:Int)) none=xs.drop a:=by
  unfold cutV HT.sIx
  simp only
  rw [if_neg (by omega),Int.toNat_natCast,Nat.min_eq_left ha,List.take_of_length_le (by rw [List.length_drop]; omega)]
def Ats {α:Type} (R:Addr->α->Prop) (as:List Addr) (xs:List α):Prop:=as.length=xs.length∧∀ (i:Nat) (a:Addr) (x:α),as[i]?=some a->xs[i]?=some x->R a x
section
variable {α:Type}{R R':Addr->α->Prop}{as bs:List Addr}{xs ys:List α}
theorem Ats.nil : Ats R [] ([]:List α):=⟨rfl,fun i a x h=>by simp at h⟩
theorem Ats.imp (h:Ats R as xs) (f:∀ a x,R a x->R' a x):Ats R' as xs:=⟨h.1,fun i a x h1 h2=>f a x (h.2 i a x h1 h2)⟩
theorem Ats.get (h:Ats R as xs) {i:Nat}{a:Addr} (e:as[i]?=some a):∃ x,xs[i]?=some x∧R a x:=by
  have hl:=(List.getElem?_eq_some_iff.mp e).1
  have hx:i < xs.length:=by rw [← h.1]; exact hl
  exact ⟨_,List.getElem?_eq_getElem hx,h.2 i a _ e (List.getElem?_eq_getElem hx)⟩
theorem Ats.get' (h:Ats R as xs) {i:Nat}{x:α} (e:xs[i]?=some x):∃ a,as[i]?=some a∧R a x:=by
  have hl:=(List.getElem?_eq_some_iff.mp e).1
  have ha:i < as.length:=by rw [h.1]; exact hl
  exact ⟨_,List.getElem?_eq_getElem ha,h.2 i _ x (List.getElem?_eq_getElem ha) e⟩
theorem Ats.append (h:Ats R as xs) (h':Ats R bs ys):Ats R (as ++ bs) (xs ++ ys):=by
  refine ⟨by rw [List.length_append,List.length_append,h.1,h'.1],fun i a x e1 e2=>?_⟩
  rcases Nat.lt_or_ge i as.length with q | q
  · rw [List.getElem?_append_left q] at e1
    rw [List.getElem?_append_left (by rw [← h.1]; exact q)] at e2
    exact h.2 i a x e1 e2
  · rw [List.getElem?_append_right q] at e1
    rw [List.getElem?_append_right (by rw [← h.1]; exact q),← h.1] at e2
    exact h'.2 _ a x e1 e2
theorem Ats.one {a:Addr}{x:α} (r:R a x):Ats R [a] [x]:=by
  refine ⟨rfl,fun i b y e1 e2=>?_⟩
  cases i with
  | zero=>cases e1; cases e2; exact r
  | succ i=>simp at e1
theorem Ats.snoc {a:Addr}{x:α} (h:Ats R as xs) (r:R a x):Ats R (as ++ [a]) (xs ++ [x]):=h.append (.one r)
theorem Ats.drop (h:Ats R as xs) (n:Nat):Ats R (as.drop n) (xs.drop n):=by
  refine ⟨by rw [List.length_drop,List.length_drop,h.1],fun i a x e1 e2=>?_⟩
  rw [List.getElem?_drop] at e1 e2
  exact h.2 _ a x e1 e2
end
theorem ref_get {as:List Addr}{i:Nat}{v:V} (h:(as.map V.ref)[i]?=some v):∃ a,as[i]?=some a∧v = .ref a:=by
  rw [List.getElem?_map] at h
  cases e:as[i]? with
  | none=>rw [e] at h; cases h
  | some a=>rw [e] at h; exact ⟨a,rfl,(Option.some.inj h).symm⟩
theorem bv_get {t:Vafmta.Bytes}{i:Nat}{v:V} (h:(bV t)[i]?=some v):∃ b,t[i]?=some b∧v = .int (bi b):=by
  unfold bV at h
  rw [List.getElem?_map] at h
  cases e:t[i]? with
  | none=>rw [e] at h; cases h
  | some a=>rw [e] at h; exact ⟨a,rfl,(Option.some.inj h).symm⟩
theorem take_snoc {α:Type}{l:List α}{i:Nat}{x:α} (h:l[i]?=some x):l.take (i + 1)=l.take i ++ [x]:=by
  rw [List.take_add_one,h]
  rfl
theorem lim {n k:Nat} (h:n ≤ k) (hk:k ≤ 16777216:=by decide):n ≤ sizeLine:=Nat.le_trans h (Nat.le_trans hk (by decide))
theorem lim1 {n k:Nat} (h:n ≤ k) (hk:k < 16777216:=by decide):n < sizeLine:=Nat.lt_of_le_of_lt h (Nat.lt_of_lt_of_le hk (by decide))
section
variable {X:Cx}
def rInD (K:PySem.W.Frag):R2:=fun x y H Q=>∃ d ds,Dp K H x d∧Dp K H y (.tuple ds)∧SeqAt.shaped d=true∧SeqAt.shaped (.tuple ds)=true∧Q (.bl (ds.any fun e=>PyData.eqv e d)) H
theorem op_in_tups (hu:X.A.units + 65 < cLine):OpR X (compareOp .In) (rInD X.K):=by
  intro pins s σ H x y v u Q I rx ry h
  obtain ⟨d,ds,hd,he,sd,se,q⟩:=h
  obtain ⟨as,r1⟩:=Dp.reads I d x v hd rx
  obtain ⟨bs,r2⟩:=Dp.reads I (.tuple ds) y u he ry
  exact SeqAt.in_tuple_reads r2 r1 (SeqAt.canLay_of_shaped se) (SeqAt.canLay_of_shaped sd) (room_in_shaped sd hu) ⟨.bl _,H,I,rfl,q⟩
def rLCount (K:PySem.W.Frag):V->List V->Hp->VK->Prop:=fun x xs H Q=>∃ (a:Addr) (ns:List Int) (k:Int),x=V.ref a∧xs=[.int k]∧SqL K H a (ns.map V.int)∧Q (.int (ns.count k:Nat)) H
theorem mt_lcount : MtR X "list.count" (rLCount X.K):=by
  intro pins s σ H x xs v us Q I rx rxs h
  obtain ⟨a,ns,k,rfl,rfl,hs,q⟩:=h
  cases rx
  obtain ⟨u,rfl,ru⟩:=vals1 rxs
  obtain ⟨t,rfl⟩:=ru
  obtain ⟨its,rv,pl,hz⟩:=I.list hs
  exact count_list_ints pl.isList rv.ints ⟨.int _,H,I.tok _,⟨_,rfl⟩,q⟩
end
theorem room65 {k:Nat}{A:Around} (r:Room k A):A.units + 65 < cLine:=by
  have:=r.un
  omega
end Cb
end
section
set_option maxRecDepth 100000
set_option maxHeartbeats 4000000
namespace Cb
open PySem PySem.Spec PyProof.Rows L2
open Cm (bi)
section
variable {P:Program}{w:World}{K:PySem.W.Frag}{mg:Str->Option Value}{base:Heap}
def sp_is_token : Sp:=fun vs H Q _=>∃ k:Int,vs=[.int k]∧Q (.bl (decide (3 ≤ k))) H
theorem ok_is_token (g:Pg K mg):FnOk P w K mg base CX0 1 g.f_is_token.a g.f_is_token.fd ["kind"] sp_is_token:=by
  refine g.f_is_token.F.ok sc_is_token (fun vs H Q E h=>?_) (fun cdv A outer s H vs Q E hr h=>?_)
  · obtain ⟨k,rfl,_⟩:=h; rfl
  · obtain ⟨k,rfl,q⟩:=h
    refine ⟨_,(pss_one (ps_ret (pe_cmpR op_ge (pv 0) (pe_gint rfl g.g_WORD) (nomark _)))),?_⟩
    exact ⟨_,rfl,_,_,rfl,rfl,q⟩
def sp_is_letter : Sp:=fun vs H Q _=>∃ k:Int,vs=[.int k]∧Q (.bl (Cm.lettI k)) H
theorem ok_is_letter (g:Pg K mg):FnOk P w K mg base CX0 1 g.f_is_letter.a g.f_is_letter.fd ["byte"] sp_is_letter:=by
  refine g.f_is_letter.F.ok sc_is_letter (fun vs H Q E h=>?_) (fun cdv A outer s H vs Q E hr h=>?_)
  · obtain ⟨k,rfl,_⟩:=h; rfl
  · obtain ⟨k,rfl,q⟩:=h
    refine ⟨_,(pss_one (ps_ret (pe_or (pe_chain op_le op_le pe_int (pv 0) pe_int) (pe_or (pe_chain op_le op_le pe_int (pv 0) pe_int) (pe_one (pe_cmpR op_eq (pv 0) (pe_gint rfl g.g_UNDERSCORE_BYTE) (nomark _))))))),?_⟩
    have last:decide (V.int k=V.int 95)=decide (k=95):=decide_eq_decide.mpr ⟨V.int.inj,congrArg V.int⟩
    have step2:¬ (97 ≤ k∧k ≤ 122)->tOrV (tChain (rI0 fun i j=>.bl (decide (i ≤ j))) (rI0 fun i j=>.bl (decide (i ≤ j))) (tC (.int 65)) (tVar 0) (tC (.int 90))) (tOp rEq (tVar 0) (tC (.int 95))) [some (V.int k)] H Q:=by
      intro n1
      refine ⟨_,rfl,_,_,rfl,rfl,_,rfl,ite2 (fun h1=>⟨_,_,rfl,rfl,_,rfl,ite2 (fun h2=>?_) (fun h2=>⟨_,rfl,rfl,?_⟩)⟩) (fun h1=>⟨_,rfl,iteF ⟨_,rfl,rfl,?_⟩⟩)⟩
      · have z1:=of_decide_eq_true h1
        have z2:=of_decide_eq_true h2
        have:Cm.lettI k=true:=by unfold Cm.lettI; rw [decide_eq_true z1,decide_eq_true z2]; simp
        rw [this] at q
        exact q
      · have z2:¬ k ≤ 90:=fun e=>h2 (decide_eq_true e)
        have:Cm.lettI k=decide (V.int k=V.int 95):=by
          unfold Cm.lettI; rw [last]; apply Bool.eq_iff_iff.mpr; simp only [Bool.or_eq_true,Bool.and_eq_true,decide_eq_true_eq]; omega
        rw [this] at q
        exact q
      · have z2:¬ 65 ≤ k:=fun e=>h1 (decide_eq_true e)
        have:Cm.lettI k=decide (V.int k=V.int 95):=by
          unfold Cm.lettI; rw [last]; apply Bool.eq_iff_iff.mpr; simp only [Bool.or_eq_true,Bool.and_eq_true,decide_eq_true_eq]; omega
        rw [this] at q
        exact q
    refine ⟨_,rfl,_,_,rfl,rfl,_,rfl,ite2 (fun h1=>⟨_,_,rfl,rfl,_,rfl,ite2 (fun h2=>?_) (fun h2=>?_)⟩) (fun h1=>⟨_,rfl,iteF ?_⟩)⟩
    · have z1:=of_decide_eq_true h1
      have z2:=of_decide_eq_true h2
      have:Cm.lettI k=true:=by unfold Cm.lettI; rw [decide_eq_true z1,decide_eq_true z2]; simp
      rw [this] at q
      exact q
    · exact step2 fun e=>h2 (decide_eq_true e.2)
    · exact step2 fun e=>h1 (decide_eq_true e.1)
def sp_is_digit : Sp:=fun vs H Q _=>∃ k:Int,vs=[.int k]∧Q (.bl (Cm.digI k)) H
theorem ok_is_digit (g:Pg K mg):FnOk P w K mg base CX0 1 g.f_is_digit.a g.f_is_digit.fd ["byte"] sp_is_digit:=by
  refine g.f_is_digit.F.ok sc_is_digit (fun vs H Q E h=>?_) (fun cdv A outer s H vs Q E hr h=>?_)
  · obtain ⟨k,rfl,_⟩:=h; rfl
  · obtain ⟨k,rfl,q⟩:=h
    refine ⟨_,(pss_one (ps_ret (pe_chain op_le op_le pe_int (pv 0) pe_int))),?_⟩
    refine ⟨_,rfl,_,_,rfl,rfl,_,rfl,ite2 (fun h1=>⟨_,_,rfl,rfl,?_⟩) (fun h1=>?_)⟩
    · have:Cm.digI k=decide (k ≤ 57):=by unfold Cm.digI; rw [h1]; rfl
      rw [this] at q
      exact q
    · have:Cm.digI k=false:=by unfold Cm.digI; rw [eq_false_of_ne_true h1]; rfl
      rw [this] at q
      exact q
def TextAt (H:Hp) (a:Addr) (t:Vafmta.Bytes):Prop:=H a=some (.lst (bV t))
def sp_goes_on : Sp:=fun vs H Q _=>∃ (a:Addr) (t:Vafmta.Bytes) (n:Nat),vs=[.ref a,.int n]∧TextAt H a t∧Q (.bl (Cm.goesOn t n)) H
theorem ne_byte (b:UInt8) (k:Nat) (hk:k < 256) (c:UInt8) (hc:UInt8.ofNat k=c):(!decide (V.int (bi b)=V.int (k:Int)))=(b != c):=by
  subst hc
  by_cases e:b=UInt8.ofNat k
  · have:=(Cm.bi_eq b k hk).mpr e
    rw [decide_eq_true (congrArg V.int this),e]
    simp
  · rw [decide_eq_false (fun z=>e (byte_is hk (V.int.inj z)))]
    exact (bne_iff_ne.mpr e).symm
theorem ok_goes_on (g:Pg K mg):FnOk P w K mg base CX0 1 g.f_goes_on.a g.f_goes_on.fd ["text","place"] sp_goes_on:=by
  refine g.f_goes_on.F.ok sc_goes_on (fun vs H Q E h=>?_) (fun cdv A outer s H vs Q E hr h=>?_)
  · obtain ⟨a,t,n,rfl,_⟩:=h; rfl
  · obtain ⟨a,t,n,rfl,ht,q⟩:=h
    refine ⟨_,(pss_one (ps_ret (pe_and (pe_cmpR op_lt (pv 1) (pe_callB call_len_seq (by rfl) g.n_len PySem.boot_len (pa_cons (pv 0) pa_nil)) (nomark _)) (pe_one (pe_cmpR op_ne (pe_ix ix_list (pv 0) (pv 1) (fun _ _=>rfl)) (pe_gint rfl g.g_LINE_END_BYTE) (nomark _)))))),?_⟩
    refine ⟨_,rfl,_,rfl,_,_,rfl,.inl (SqL.of ht),_,_,rfl,rfl,_,rfl,ite2 (fun h1=>?_) (fun h1=>?_)⟩
    · have hl:=of_decide_eq_true h1
      rw [bV_len] at hl
      obtain ⟨c,hc,_⟩:=Cm.drop_lt (t:=t) (n:=n) (by omega)
      refine ⟨_,rfl,_,rfl,_,_,_,_,rfl,rfl,SqL.of ht,bV_at hc,rfl,?_⟩
      have:Cm.goesOn t n=(!decide (V.int (bi c)=V.int 10)):=by
        rw [show (!decide (V.int (bi c)=V.int 10))=(c != Vafmta.LINE) from ne_byte c 10 (by decide) _ rfl]
        unfold Cm.goesOn
        rw [hc]
      rw [this] at q
      exact q
    · have hl:¬ (n:Int) < (bV t).length:=fun e=>h1 (decide_eq_true e)
      rw [bV_len] at hl
      have:Cm.goesOn t n=false:=by
        unfold Cm.goesOn
        rw [List.getElem?_eq_none (by omega)]
      rw [this] at q
      exact q
end
end Cb
end
section
set_option maxRecDepth 100000
set_option maxHeartbeats 4000000
namespace Cb
open PySem PySem.Spec PyProof.Rows L2
open Cm (bi)
section
variable {P:Program}{w:World}{K:PySem.W.Frag}{mg:Str->Option Value}{base:Heap}
def sp_step_within_quotes : Sp:=fun vs H Q _=>∃ (a:Addr) (t:Vafmta.Bytes) (n:Nat) (c:UInt8),vs=[.ref a,.int n]∧TextAt H a t∧t[n]?=some c∧Q (.int (Cm.stepQ t n:Nat)) H
theorem ok_step_within_quotes (g:Pg K mg):FnOk P w K mg base CX0 2 g.f_step_within_quotes.a g.f_step_within_quotes.fd ["text","place"] sp_step_within_quotes:=by
  refine g.f_step_within_quotes.F.ok sc_step_within_quotes (fun vs H Q E h=>?_) (fun cdv A outer s H vs Q E hr h=>?_)
  · obtain ⟨a,t,n,c,rfl,_⟩:=h; rfl
  · obtain ⟨a,t,n,c,rfl,ht,hc,q⟩:=h
    refine ⟨_,(pss_cons (ps_if (PW.pt (pw_and (pt_cmpR op_eq (pe_ix ix_list (pv 0) (pv 1) (fun _ _=>rfl)) (pe_gint rfl g.g_BACKSLASH_BYTE) (nomark _)) (pw_and1 (pt_val (pe_call (ok_goes_on g) (hr.mono (by decide)) rfl g.f_goes_on.m g.f_goes_on.F.kp g.f_goes_on.b .nil pass0 (pa_cons (pv 0) (pa_cons (pe_op op_add (pv 1) pe_int) pa_nil))))))) (pss_one (ps_ret pe_int)) pss_nil)
      (pss_one (ps_ret pe_int))),?_⟩
    have no:¬ (t[n]?=some Vafmta.BACK∧Cm.goesOn t (n + 1)=true)->Q (.int 1) H:=fun z=>by
      have:Cm.stepQ t n=1:=by unfold Cm.stepQ; rw [if_neg z]
      rw [this] at q
      exact q
    refine ⟨_,rfl,_,rfl,_,_,_,_,rfl,rfl,SqL.of ht,bV_at hc,rfl,_,rfl,ite2 (fun h1=>?_) (fun h1=>?_)⟩
    · have hb:c=Vafmta.BACK:=byte_is (k:=92) (by decide) (int_eq h1)
      refine ⟨_,rfl,_,rfl,_,_,rfl,rfl,a,t,n + 1,rfl,ht,_,rfl,ite2 (fun h2=>?_) (fun h2=>?_)⟩
      · have:Cm.stepQ t n=2:=by unfold Cm.stepQ; rw [if_pos ⟨by rw [hc,hb],h2⟩]
        rw [this] at q
        exact q
      · exact no fun z=>h2 z.2
    · refine iteF ?_
      exact no fun z=>h1 (by rw [hc] at z; rw [Option.some.inj z.1]; rfl)
def sp_rest_end : Sp:=fun vs H Q _=>∃ (a:Addr) (t:Vafmta.Bytes) (n:Nat),vs=[.ref a,.int n]∧TextAt H a t∧n ≤ t.length∧Q (.int (Cm.runEnd (fun b=>b != Vafmta.LINE) t n:Nat)) H
theorem ok_rest_end (g:Pg K mg):FnOk P w K mg base CX0 2 g.f_rest_end.a g.f_rest_end.fd ["text","place"] sp_rest_end:=by
  refine g.f_rest_end.F.ok sc_rest_end (fun vs H Q E h=>?_) (fun cdv A outer s H vs Q E hr h=>?_)
  · obtain ⟨a,t,n,rfl,_⟩:=h; rfl
  · obtain ⟨a,t,n,rfl,ht,hn,q⟩:=h
    refine ⟨_,(pss_cons (ps_while PassesOwn.never (pt_val (pe_call (ok_goes_on g) (hr.mono (by decide)) rfl g.f_goes_on.m g.f_goes_on.F.kp g.f_goes_on.b .nil pass0 (pa_cons (pv 0) (pa_cons (pv 1) pa_nil)))) (pss_one (ps_aug (i:=1) sc_rest_end.nd rfl (Or.inl rfl) pe_int ip_add)))
      (pss_one (ps_ret (pv 1)))),?_⟩
    refine ⟨fun m σ H'=>∃ n':Nat,σ=[some (.ref a),some (.int (n':Int))]∧H'=H∧m=t.length - n'∧n' ≤ t.length∧Cm.runEnd (fun b=>b != Vafmta.LINE) t n'=Cm.runEnd (fun b=>b != Vafmta.LINE) t n,⟨_,n,rfl,rfl,rfl,hn,rfl⟩,?_⟩
    rintro m σ H' ⟨n',rfl,rfl,rfl,hn',e⟩
    refine ⟨_,rfl,_,rfl,a,t,n',rfl,ht,_,rfl,ite2 (fun h=>?_) (fun h=>?_)⟩
    · obtain ⟨c,hc,hl⟩:=Cm.goesOn_lt h
      have hlt:=(List.getElem?_eq_some_iff.mp hc).1
      refine ⟨_,fun _ _ z=>z,?_⟩
      refine ⟨_,rfl,_,_,rfl,rfl,?_⟩
      exact ⟨t.length - (n' + 1),by omega,n' + 1,rfl,rfl,rfl,by omega,by rw [← e,Cm.runEnd_step hc (by simpa using hl)]⟩
    · refine ⟨_,rfl,?_⟩
      have e2:Cm.runEnd (fun b=>b != Vafmta.LINE) t n'=n':=by
        unfold Cm.goesOn at h
        cases q:t[n']? with
        | none=>exact Cm.runEnd_end (List.getElem?_eq_none_iff.mp q)
        | some c =>
          rw [q] at h
          exact Cm.runEnd_stop q (eq_false_of_ne_true h)
      rw [← e,e2] at q
      exact q
def sp_word_end : Sp:=fun vs H Q _=>∃ (a:Addr) (t:Vafmta.Bytes) (n:Nat),vs=[.ref a,.int n]∧TextAt H a t∧n ≤ t.length∧Q (.int (Cm.runEnd Vafmta.isWordByte t n:Nat)) H
theorem ok_word_end (g:Pg K mg):FnOk P w K mg base CX0 2 g.f_word_end.a g.f_word_end.fd ["text","place"] sp_word_end:=by
  refine g.f_word_end.F.ok sc_word_end (fun vs H Q E h=>?_) (fun cdv A outer s H vs Q E hr h=>?_)
  · obtain ⟨a,t,n,rfl,_⟩:=h; rfl
  · obtain ⟨a,t,n,rfl,ht,hn,q⟩:=h
    refine ⟨_,(pss_cons (ps_while PassesOwn.never (PW.pt (pw_and (pt_cmpR op_lt (pv 1) (pe_callB call_len_seq (by rfl) g.n_len PySem.boot_len (pa_cons (pv 0) pa_nil)) (nomark _)) (pw_and1 (PW.pt (pw_or (pt_val (pe_call (ok_is_letter g) (hr.mono (by decide)) rfl g.f_is_letter.m g.f_is_letter.F.kp g.f_is_letter.b .nil pass0 (pa_cons (pe_ix ix_list (pv 0) (pv 1) (fun _ _=>rfl)) pa_nil))) (pw_or1 (pt_val (pe_call (ok_is_digit g) (hr.mono (by decide)) rfl g.f_is_digit.m g.f_is_digit.F.kp g.f_is_digit.b .nil pass0 (pa_cons (pe_ix ix_list (pv 0) (pv 1) (fun _ _=>rfl)) pa_nil))))))))) (pss_one (ps_aug (i:=1) sc_word_end.nd rfl (Or.inl rfl) pe_int ip_add)))
      (pss_one (ps_ret (pv 1)))),?_⟩
    refine ⟨fun m σ H'=>∃ n':Nat,σ=[some (.ref a),some (.int (n':Int))]∧H'=H∧m=t.length - n'∧n' ≤ t.length∧Cm.runEnd Vafmta.isWordByte t n'=Cm.runEnd Vafmta.isWordByte t n,⟨_,n,rfl,rfl,rfl,hn,rfl⟩,?_⟩
    rintro m σ H' ⟨n',rfl,rfl,rfl,hn',e⟩
    have fin:Cm.runEnd Vafmta.isWordByte t n'=n'->Q (.int (n':Int)) H':=fun z=>by rw [← e,z] at q; exact q
    refine ⟨_,rfl,_,rfl,_,_,rfl,.inl (SqL.of ht),_,_,rfl,rfl,_,rfl,ite2 (fun h=>?_) (fun h=>?_)⟩
    · have hl:=of_decide_eq_true h
      rw [bV_len] at hl
      obtain ⟨c,hc,_⟩:=Cm.drop_lt (t:=t) (n:=n') (by omega)
      have yes:Vafmta.isWordByte c=true->∃ N:L2.St->Hp->Prop,(∀ σ' H1,N σ' H1->∃ m',m' < t.length - n'∧∃ n'':Nat,σ'=[some (.ref a),some (.int (n'':Int))]∧H1=H'∧m'=t.length - n''∧n'' ≤ t.length∧Cm.runEnd Vafmta.isWordByte t n''=Cm.runEnd Vafmta.isWordByte t n)∧N [some (.ref a),some (.int ((n':Int) + 1))] H':=by
        intro hw
        refine ⟨_,fun _ _ z=>z,?_⟩
        exact ⟨t.length - (n' + 1),by omega,n' + 1,rfl,rfl,rfl,by omega,by rw [← e,Cm.runEnd_step hc hw]⟩
      refine ⟨_,rfl,_,rfl,_,_,_,_,rfl,rfl,SqL.of ht,bV_at hc,_,rfl,_,rfl,ite2 (fun h1=>?_) (fun h1=>?_)⟩
      · rw [Cm.let_bi] at h1
        obtain ⟨N,n1,n2⟩:=yes (by unfold Vafmta.isWordByte; rw [h1]; rfl)
        refine iteT ⟨N,n1,?_⟩
        exact ⟨_,rfl,_,_,rfl,rfl,n2⟩
      · rw [Cm.let_bi] at h1
        refine ⟨_,rfl,_,rfl,_,_,_,_,rfl,rfl,SqL.of ht,bV_at hc,_,rfl,_,rfl,ite2 (fun h2=>?_) (fun h2=>?_)⟩
        · rw [Cm.dig_bi] at h2
          obtain ⟨N,n1,n2⟩:=yes (by unfold Vafmta.isWordByte; rw [h2]; simp)
          refine ⟨N,n1,?_⟩
          exact ⟨_,rfl,_,_,rfl,rfl,n2⟩
        · rw [Cm.dig_bi] at h2
          refine ⟨_,rfl,fin (Cm.runEnd_stop hc ?_)⟩
          unfold Vafmta.isWordByte
          rw [eq_false_of_ne_true h1,eq_false_of_ne_true h2]
          rfl
    · have hl:¬ (n':Int) < (bV t).length:=fun z=>h (decide_eq_true z)
      rw [bV_len] at hl
      refine iteF ⟨_,rfl,fin (Cm.runEnd_end (by omega))⟩
def sp_digits_end : Sp:=fun vs H Q _=>∃ (a:Addr) (t:Vafmta.Bytes) (n:Nat),vs=[.ref a,.int n]∧TextAt H a t∧n ≤ t.length∧Q (.int (Cm.runEnd Vafmta.isDigit t n:Nat)) H
theorem ok_digits_end (g:Pg K mg):FnOk P w K mg base CX0 2 g.f_digits_end.a g.f_digits_end.fd ["text","place"] sp_digits_end:=by
  refine g.f_digits_end.F.ok sc_digits_end (fun vs H Q E h=>?_) (fun cdv A outer s H vs Q E hr h=>?_)
  · obtain ⟨a,t,n,rfl,_⟩:=h; rfl
  · obtain ⟨a,t,n,rfl,ht,hn,q⟩:=h
    refine ⟨_,(pss_cons (ps_while PassesOwn.never (PW.pt (pw_and (pt_cmpR op_lt (pv 1) (pe_callB call_len_seq (by rfl) g.n_len PySem.boot_len (pa_cons (pv 0) pa_nil)) (nomark _)) (pw_and1 (pt_val (pe_call (ok_is_digit g) (hr.mono (by decide)) rfl g.f_is_digit.m g.f_is_digit.F.kp g.f_is_digit.b .nil pass0 (pa_cons (pe_ix ix_list (pv 0) (pv 1) (fun _ _=>rfl)) pa_nil)))))) (pss_one (ps_aug (i:=1) sc_digits_end.nd rfl (Or.inl rfl) pe_int ip_add)))
      (pss_one (ps_ret (pv 1)))),?_⟩
    refine ⟨fun m σ H'=>∃ n':Nat,σ=[some (.ref a),some (.int (n':Int))]∧H'=H∧m=t.length - n'∧n' ≤ t.length∧Cm.runEnd Vafmta.isDigit t n'=Cm.runEnd Vafmta.isDigit t n,⟨_,n,rfl,rfl,rfl,hn,rfl⟩,?_⟩
    rintro m σ H' ⟨n',rfl,rfl,rfl,hn',e⟩
    have fin:Cm.runEnd Vafmta.isDigit t n'=n'->Q (.int (n':Int)) H':=fun z=>by rw [← e,z] at q; exact q
    refine ⟨_,rfl,_,rfl,_,_,rfl,.inl (SqL.of ht),_,_,rfl,rfl,_,rfl,ite2 (fun h=>?_) (fun h=>?_)⟩
    · have hl:=of_decide_eq_true h
      rw [bV_len] at hl
      obtain ⟨c,hc,_⟩:=Cm.drop_lt (t:=t) (n:=n') (by omega)
      refine ⟨_,rfl,_,rfl,_,_,_,_,rfl,rfl,SqL.of ht,bV_at hc,_,rfl,_,rfl,ite2 (fun h2=>?_) (fun h2=>?_)⟩
      · rw [Cm.dig_bi] at h2
        refine ⟨_,fun _ _ z=>z,?_⟩
        refine ⟨_,rfl,_,_,rfl,rfl,?_⟩
        exact ⟨t.length - (n' + 1),by omega,n' + 1,rfl,rfl,rfl,by omega,by rw [← e,Cm.runEnd_step hc h2]⟩
      · rw [Cm.dig_bi] at h2
        exact ⟨_,rfl,fin (Cm.runEnd_stop hc (eq_false_of_ne_true h2))⟩
    · have hl:¬ (n':Int) < (bV t).length:=fun z=>h (decide_eq_true z)
      rw [bV_len] at hl
      refine iteF ⟨_,rfl,fin (Cm.runEnd_end (by omega))⟩
def sp_number_end : Sp:=fun vs H Q _=>∃ (a:Addr) (t:Vafmta.Bytes) (n:Nat),vs=[.ref a,.int n]∧TextAt H a t∧n ≤ t.length∧Q (.int (Cm.numEnd t n:Nat)) H
theorem ok_number_end (g:Pg K mg):FnOk P w K mg base CX0 3 g.f_number_end.a g.f_number_end.fd ["text","place"] sp_number_end:=by
  refine g.f_number_end.F.ok sc_number_end (fun vs H Q E h=>?_) (fun cdv A outer s H vs Q E hr h=>?_)
  · obtain ⟨a,t,n,rfl,_⟩:=h; rfl
  · obtain ⟨a,t,n,rfl,ht,hn,q⟩:=h
    refine ⟨_,(pss_cons (ps_set (i:=2) sc_number_end.nd rfl (Or.inl rfl) (pe_call (ok_digits_end g) (hr.mono (by decide)) rfl g.f_digits_end.m g.f_digits_end.F.kp g.f_digits_end.b .nil pass0 (pa_cons (pv 0) (pa_cons (pv 1) pa_nil))))
      (pss_cons (ps_if (PW.pt (pw_and (pt_cmpR op_lt (pe_op op_add (pv 2) pe_int) (pe_callB call_len_seq (by rfl) g.n_len PySem.boot_len (pa_cons (pv 0) pa_nil)) (nomark _)) (pw_and (pt_cmpR op_eq (pe_ix ix_list (pv 0) (pv 2) (fun _ _=>rfl)) (pe_gint rfl g.g_POINT_BYTE) (nomark _)) (pw_and1 (pt_val (pe_call (ok_is_digit g) (hr.mono (by decide)) rfl g.f_is_digit.m g.f_is_digit.F.kp g.f_is_digit.b .nil pass0 (pa_cons (pe_ix ix_list (pv 0) (pe_op op_add (pv 2) pe_int) (fun _ _=>rfl)) pa_nil))))))) (pss_one (ps_ret (pe_call (ok_digits_end g) (hr.mono (by decide)) rfl g.f_digits_end.m g.f_digits_end.F.kp g.f_digits_end.b .nil pass0 (pa_cons (pv 0) (pa_cons (pe_op op_add (pv 2) pe_int) pa_nil))))) pss_nil)
      (pss_one (ps_ret (pv 2))))),?_⟩
    unfold Cm.numEnd at q
    generalize hm:Cm.runEnd Vafmta.isDigit t n=m at q
    have hml:m ≤ t.length:=by rw [← hm]; exact Cm.runEnd_le hn
    refine ⟨_,rfl,_,rfl,a,t,n,rfl,ht,hn,?_⟩
    rw [hm]
    have no:¬ (t[m]?=some Vafmta.POINT∧Cm.digAt t (m + 1)=true)->Q (.int (m:Int)) H:=fun z=>by rw [if_neg z] at q; exact q
    refine ⟨_,rfl,_,_,rfl,rfl,_,rfl,_,_,rfl,.inl (SqL.of ht),_,_,rfl,rfl,_,rfl,ite2 (fun h=>?_) (fun h=>?_)⟩
    · have hl:=of_decide_eq_true h
      rw [bV_len] at hl
      obtain ⟨c,hc,_⟩:=Cm.drop_lt (t:=t) (n:=m) (by omega)
      obtain ⟨d,hd,_⟩:=Cm.drop_lt (t:=t) (n:=m + 1) (by omega)
      refine ⟨_,rfl,_,rfl,_,_,_,_,rfl,rfl,SqL.of ht,bV_at hc,rfl,_,rfl,ite2 (fun h1=>?_) (fun h1=>?_)⟩
      · have hb:c=Vafmta.POINT:=byte_is (k:=46) (by decide) (int_eq h1)
        refine ⟨_,rfl,_,rfl,_,_,rfl,rfl,_,_,_,_,rfl,rfl,SqL.of ht,bV_at hd,_,rfl,_,rfl,ite2 (fun h2=>?_) (fun h2=>?_)⟩
        · rw [Cm.dig_bi] at h2
          rw [if_pos ⟨by rw [hc,hb],by rw [Cm.digAt_some hd]; exact h2⟩] at q
          exact ⟨_,rfl,_,rfl,_,_,rfl,rfl,a,t,m + 1,rfl,ht,by omega,q⟩
        · rw [Cm.dig_bi] at h2
          exact ⟨_,rfl,no fun z=>h2 (by rw [Cm.digAt_some hd] at z; exact z.2)⟩
      · refine iteF ⟨_,rfl,no fun z=>h1 (by rw [hc] at z; rw [Option.some.inj z.1]; rfl)⟩
    · have hl:¬ (m:Int) + 1 < (bV t).length:=fun z=>h (decide_eq_true z)
      rw [bV_len] at hl
      refine iteF ⟨_,rfl,no fun z=>?_⟩
      have z2:=z.2
      rw [Cm.digAt_none (List.getElem?_eq_none (by omega))] at z2
      cases z2
def PieceObj (g:Pg K mg) (H:Hp) (x:Addr) (k n:Int):Prop:=∃ dx,H x=some (.ins g.Piece.C dx (fPiece k n))
def sp_Piece_init (g:Pg K mg):Sp:=fun vs H Q _=>∃ (p dx:Addr) (k n:Int),vs=[.ref p,.int k,.int n]∧H p=some (.ins g.Piece.C dx [])∧Q .non (upd H p (.ins g.Piece.C dx (fPiece k n)))
theorem ok_Piece_init (g:Pg K mg):FnOk P w K mg base CX0 1 g.Piece.a g.Piece.fd ["self","kind","size"] (sp_Piece_init g):=by
  refine g.Piece.F.ok sc_Piece_init (fun vs H Q E h=>?_) (fun cdv A outer s H vs Q E hr h=>?_)
  · obtain ⟨p,dx,k,n,rfl,_⟩:=h; rfl
  · obtain ⟨p,dx,k,n,rfl,hp,q⟩:=h
    refine ⟨_,(pss_cons (ps_fld (pv 0) (pv 1) rfl)
      (pss_one (ps_fld (pv 0) (pv 2) rfl))),?_⟩
    refine ⟨_,rfl,_,rfl,fsto hp g.Piece.cl (g.Piece.na _ (by decide +kernel)) (by simp) (pi_Piece_kind (x1:=n)) ?_⟩
    refine ⟨_,rfl,_,rfl,fsto upd_same g.Piece.cl (g.Piece.na _ (by decide +kernel)) (by simp) pi_Piece_size ?_⟩
    rw [upd_upd]
    exact q
theorem mk_Piece (g:Pg K mg) {k n:Int}{H:Hp}{R:Addr->Hp->Prop}{E:XK} (h:∀ x H',H x=none->Same H H'->PieceObj g H' x k n->R x H'):∀ x dx,H x=none->H dx=none->dx ≠ x →
    sp_Piece_init g (.ref x :: ([.int k,.int n] ++ [])) (upd (upd H dx (.own x)) x (.ins g.Piece.C dx [])) (fun v H2=>v = .non∧R x H2) E:=fun x dx nx nd ne =>
  ⟨x,dx,k,n,rfl,upd_same,rfl,h x _ nx (by rw [upd_upd]; exact same_new2 nx nd) ⟨dx,upd_same⟩⟩
theorem PieceObj.same {g:Pg K mg}{H H':Hp}{x:Addr}{k n:Int} (h:PieceObj g H x k n) (s:Same H H'):PieceObj g H' x k n:=by
  obtain ⟨dx,h⟩:=h
  exact ⟨dx,s _ _ h⟩
end
end Cb
end
section
set_option maxRecDepth 100000
set_option maxHeartbeats 4000000
namespace Cb
open PySem PySem.Spec PyProof.Rows L2
open Cm (bi)
def nV (ps:List Nat):List V:=ps.map fun (p:Nat)=>V.int (p:Int)
theorem nV_append (a b:List Nat):nV (a ++ b)=nV a ++ nV b:=List.map_append ..
theorem nV_len (a:List Nat):(nV a).length=a.length:=List.length_map ..
theorem nV_get {ps:List Nat}{i:Nat}{v:V} (h:(nV ps)[i]?=some v):∃ p:Nat,ps[i]?=some p∧v = .int (p:Int):=by
  unfold nV at h
  rw [List.getElem?_map] at h
  cases e:ps[i]? with
  | none=>rw [e] at h; cases h
  | some a=>rw [e] at h; exact ⟨a,rfl,(Option.some.inj h).symm⟩
theorem keys_put {κ:Type} [DecidableEq κ] (kvs:List (κ × V)) (k:κ) (v:V):(valV kvs k=none∧(putK kvs k v).map (·.1)=kvs.map (·.1) ++ [k]) ∨ (putK kvs k v).map (·.1)=kvs.map (·.1):=by
  cases e:valV kvs k with
  | none=>exact .inl ⟨rfl,by rw [putK_new v e,List.map_append]; rfl⟩
  | some u =>
    refine .inr ?_
    have q:(kvs.any fun kv=>decide (kv.1=k))=true:=by rw [valV_any,e]; rfl
    unfold putK
    rw [if_pos q,List.map_map]
    apply List.map_congr_left
    intro kv _
    simp only [Function.comp]
    split <;> rfl
structure Dead (t:Vafmta.Bytes) (kvs:List (Key × V)):Prop where
  nd:(kvs.map (·.1)).Nodup
  dead:∀ k ∈ kvs.map (·.1),∃ m:Nat,m < t.length∧k=Sum.inl (m:Int)∧Vafmta.closing (t.drop m)=none
theorem Dead.nil (t:Vafmta.Bytes):Dead t []:=⟨List.nodup_nil,fun k h=>by cases h⟩
theorem Dead.len {t:Vafmta.Bytes}{kvs:List (Key × V)} (h:Dead t kvs):kvs.length ≤ t.length:=by
  have:=Cm.nodup_f (fun m:Nat=>(Sum.inl (m:Int):Key)) t.length _ h.nd (fun x hx=>let ⟨m,h1,h2,_⟩:=h.dead x hx; ⟨m,h1,h2⟩)
  rw [List.length_map] at this
  exact this
theorem Dead.put {t:Vafmta.Bytes}{kvs:List (Key × V)} (h:Dead t kvs) {m:Nat} (hm:m < t.length) (hc:Vafmta.closing (t.drop m)=none) (v:V):Dead t (putK kvs (Sum.inl (m:Int)) v):=by
  rcases keys_put kvs (Sum.inl (m:Int)) v with ⟨e0,e⟩ | e
  · refine ⟨by rw [e]; exact nd_snoc h.nd (valV_not e0),fun k hk=>?_⟩
    rw [e] at hk
    rcases List.mem_append.mp hk with z | z
    · exact h.dead k z
    · exact ⟨m,hm,List.mem_singleton.mp z,hc⟩
  · exact ⟨by rw [e]; exact h.nd,fun k hk=>h.dead k (by rw [e] at hk; exact hk)⟩
theorem Dead.at_ {t:Vafmta.Bytes}{kvs:List (Key × V)} (h:Dead t kvs) {m:Nat}{v:V} (e:valV kvs (Sum.inl (m:Int))=some v):Vafmta.closing (t.drop m)=none:=by
  obtain ⟨m',_,h1,h2⟩:=h.dead _ (valV_in e)
  have:(m:Int)=(m':Int):=Sum.inl.inj h1
  have:m=m':=by omega
  rw [this]
  exact h2
section
variable {P:Program}{w:World}{K:PySem.W.Frag}{mg:Str->Option Value}{base:Heap}
structure CutterAt (g:Pg K mg) (H:Hp) (c a d:Addr) (t:Vafmta.Bytes):Prop where
  obj:∃ dx,H c=some (.ins g.Cutter.C dx (fCutter a d))
  txt:TextAt H a t
  dic:∃ kvs,H d=some (.dK kvs)∧Dead t kvs
  len:t.length ≤ 100000
theorem CutterAt.same {g:Pg K mg}{H H':Hp}{c a d:Addr}{t:Vafmta.Bytes} (h:CutterAt g H c a d t) (s:Same H H'):CutterAt g H' c a d t:=by
  obtain ⟨⟨dx,h1⟩,h2,⟨kvs,h3,h4⟩,h5⟩:=h
  exact ⟨⟨dx,s _ _ h1⟩,s _ _ h2,⟨kvs,s _ _ h3,h4⟩,h5⟩
theorem CutterAt.put {g:Pg K mg}{H H':Hp}{c a d:Addr}{t:Vafmta.Bytes}{kvs:List (Key × V)} (h:CutterAt g H c a d t) (s:But d H H') (e:H' d=some (.dK kvs)) (z:Dead t kvs):CutterAt g H' c a d t:=by
  obtain ⟨⟨dx,h1⟩,h2,⟨kvs0,h3,h4⟩,h5⟩:=h
  exact ⟨⟨dx,s _ _ h1 (ne_of h1 h3 (by intro q; cases q))⟩,s _ _ h2 (ne_of h2 h3 (by intro q; cases q)),⟨kvs,e,z⟩,h5⟩
def sp_Cutter_init (g:Pg K mg):Sp:=fun vs H Q _=>∃ (p dx a:Addr),vs=[.ref p,.ref a]∧H p=some (.ins g.Cutter.C dx [])∧∀ d,d ≠ p->H d=none->Q .non (upd (upd H d (.dK [])) p (.ins g.Cutter.C dx (fCutter a d)))
theorem ok_Cutter_init (g:Pg K mg):FnOk P w K mg base CX0 1 g.Cutter.a g.Cutter.fd ["self","text"] (sp_Cutter_init g):=by
  refine g.Cutter.F.ok sc_Cutter_init (fun vs H Q E h=>?_) (fun cdv A outer s H vs Q E hr h=>?_)
  · obtain ⟨p,dx,a,rfl,_⟩:=h; rfl
  · obtain ⟨p,dx,a,rfl,hp,q⟩:=h
    refine ⟨_,(pss_cons (ps_fld (pv 0) (pv 1) rfl)
      (pss_one (ps_fld (pv 0) pe_dnewK rfl))),?_⟩
    refine ⟨_,rfl,_,rfl,fsto hp g.Cutter.cl (g.Cutter.na _ (by decide +kernel)) (by simp) (pi_Cutter_text (x1:=a)) ?_⟩
    intro d hd
    have hdp:d ≠ p:=fun e=>by rw [e,upd_same] at hd; cases hd
    rw [upd_ne hdp] at hd
    refine ⟨_,rfl,fsto (by rw [upd_ne (Ne.symm hdp)]; exact upd_same) g.Cutter.cl (g.Cutter.na _ (by decide +kernel)) (by simp) pi_Cutter_unclosed ?_⟩
    have:=q d hdp hd
    have e:upd (upd (upd H p (.ins g.Cutter.C dx [("text",.ref a)])) d (.dK [])) p (.ins g.Cutter.C dx (fCutter a d))=upd (upd H d (.dK [])) p (.ins g.Cutter.C dx (fCutter a d)):=by
      funext b
      unfold upd
      split
      · rfl
      · rfl
    exact e ▸ this
theorem mk_Cutter (g:Pg K mg) {a:Addr}{t:Vafmta.Bytes}{H:Hp}{R:Addr->Hp->Prop}{E:XK} (ht:TextAt H a t) (hl:t.length ≤ 100000) (h:∀ c d H',H c=none->H d=none->Same H H'->CutterAt g H' c a d t->R c H'):∀ x dx,H x=none->H dx=none->dx ≠ x →
    sp_Cutter_init g (.ref x :: ([.ref a] ++ [])) (upd (upd H dx (.own x)) x (.ins g.Cutter.C dx [])) (fun v H2=>v = .non∧R x H2) E:=fun x dx nx nd ne=>by
  refine ⟨x,dx,a,rfl,upd_same,fun d hdx hd=>⟨rfl,?_⟩⟩
  have h0:H d=none:=by
    rw [upd_ne hdx] at hd
    unfold upd at hd
    split at hd
    · cases hd
    · exact hd
  have s1:Same H (upd (upd H dx (.own x)) x (.ins g.Cutter.C dx [])):=same_new2 nx nd
  have s2:Same H (upd (upd (upd (upd H dx (.own x)) x (.ins g.Cutter.C dx [])) d (.dK [])) x (.ins g.Cutter.C dx (fCutter a d))):=same_upd (same_upd s1 h0) nx
  exact h x d _ nx h0 s2 ⟨⟨dx,upd_same⟩,s2 _ _ ht,⟨[],by rw [upd_ne hdx]; exact upd_same,.nil t⟩,hl⟩
def sp_Cutter_closing_quote (g:Pg K mg):Sp:=fun vs H Q _=>∃ (c a d:Addr) (t:Vafmta.Bytes) (n:Nat),vs=[.ref c,.int n]∧CutterAt g H c a d t∧n ≤ t.length ∧
  ∀ H',But d H H'->CutterAt g H' c a d t->Q (.int (Cm.closeAt t n)) H'
theorem ok_Cutter_closing_quote (g:Pg K mg):FnOk P w K mg base CX0 3 g.m_Cutter_closing_quote.a g.m_Cutter_closing_quote.fd ["self","place"] (sp_Cutter_closing_quote g):=by
  refine g.m_Cutter_closing_quote.F.ok sc_Cutter_closing_quote (fun vs H Q E h=>?_) (fun cdv A outer s H vs Q E hr h=>?_)
  · obtain ⟨c,a,d,t,n,rfl,_⟩:=h; rfl
  · obtain ⟨c,a,d,t,n,rfl,C,hn,q⟩:=h
    have hu:=hu_of hr
    refine ⟨_,(pss_cons (ps_set (i:=2) sc_Cutter_closing_quote.nd rfl (Or.inl rfl) (pe_lst pa_nil))
      (pss_cons (ps_while PassesOwn.never (PW.pt (pw_and (pt_val (pe_call (ok_goes_on g) (hr.mono (by decide)) rfl g.f_goes_on.m g.f_goes_on.F.kp g.f_goes_on.b .nil pass0 (pa_cons (pe_fld (pv 0) rfl) (pa_cons (pv 1) pa_nil)))) (pw_and1 (pt_cmp (pc_dnotin hu (pv 1) (pe_fld (pv 0) rfl)))))) (pss_cons (ps_if (pt_cmpR op_eq (pe_ix ix_list (pe_fld (pv 0) rfl) (pv 1) (fun _ _=>rfl)) (pe_gint rfl g.g_QUOTE_BYTE) (nomark _)) (pss_one (ps_ret (pv 1))) pss_nil)
        (pss_cons (ps_expr (pe_bm PySem.F.plainAttrs_list PySem.F.slot_list_append PySem.F.type_list_append mt_append (pv 2) (pa_cons (pv 1) pa_nil)))
        (pss_one (ps_aug (i:=1) sc_Cutter_closing_quote.nd rfl (Or.inl rfl) (pe_call (ok_step_within_quotes g) (hr.mono (by decide)) rfl g.f_step_within_quotes.m g.f_step_within_quotes.F.kp g.f_step_within_quotes.b .nil pass0 (pa_cons (pe_fld (pv 0) rfl) (pa_cons (pv 1) pa_nil))) ip_add)))))
      (pss_cons (ps_for PassesOwn.never rfl (pi_list (pv 2)) (pg_name (i:=3) sc_Cutter_closing_quote.nd rfl (Or.inl rfl)) (pss_one (ps_dput hu (pe_fld (pv 0) rfl) (pv 3) pe_bl rfl)))
      (pss_one (ps_ret (pe_un un_neg pe_int)))))),?_⟩
    refine ⟨by decide,fun l hl=>?_⟩
    have hld:l ≠ d:=by obtain ⟨kvs,h3,_⟩:=C.dic; exact Ne.symm (ne_of_none h3 hl)
    have rest:∀ (n':Nat) (ps:List Nat),Cm.closeAt t n'=Cm.closeAt t n->Vafmta.closing (t.drop n')=none->(∀ p ∈ ps,p < t.length∧(Vafmta.closing (t.drop p)=none ↔ Vafmta.closing (t.drop n')=none)) →
        tSeq (tFor (iList K (tVar 2)) (gName 3) (sDPut (tFld K (tVar 0) "unclosed") (tVar 3) (tC (.bl true)))) (tRet (tUn (rU fun i=>.int (-i)) (tC (.int 1)))) { nx:=fun _ H'=>Q .non H',rt:=Q } [some (.ref c),some (.int (n':Int)),some (.ref l),none] (upd H l (.lst (nV ps))):=by
      intro n' ps e1 e2 hps
      refine ⟨_,rfl,l,rfl,⟨_,SqL.of upd_same⟩,for_list (K:=K) (a:=l) (xs:=nV ps) (fun i σ H'=>∃ v,σ=[some (.ref c),some (.int (n':Int)),some (.ref l),v]∧But d (upd H l (.lst (nV ps))) H'∧CutterAt g H' c a d t) ?_ ?_ ?_ ?_⟩
      · exact ⟨none,rfl,.refl _ _,C.same (same_new hl)⟩
      · rintro i σ H' _ ⟨v,rfl,b,C'⟩
        exact SqL.of (b _ _ upd_same hld)
      · rintro i x σ H' hi ⟨v,rfl,b,C'⟩
        · obtain ⟨p,ep,rfl⟩:=nV_get hi
          obtain ⟨hp1,hp2⟩:=hps p (List.mem_of_getElem? ep)
          obtain ⟨dx,ho⟩:=C'.obj
          obtain ⟨kvs,hd,hz⟩:=C'.dic
          refine ⟨_,rfl,rf_Cutter_unclosed g ho ⟨_,rfl,d,_,rfl,DPut.k (k:=Sum.inl (p:Int)) hd (lim1 (Nat.le_trans hz.len C'.len)),?_⟩⟩
          exact ⟨_,rfl,b.trans .upd,C'.put .upd upd_same (hz.put hp1 (hp2.mpr e2) _)⟩
      · rintro σ H' ⟨v,rfl,b,C'⟩
        refine ⟨_,rfl,?_⟩
        have e3:Cm.closeAt t n = -1:=by rw [← e1]; unfold Cm.closeAt; rw [e2]
        have:=q H' (fun x o hx hne=>b x o (by rw [upd_ne (ne_of_none hx hl)]; exact hx) hne) C'
        rw [e3] at this
        exact this
    refine ⟨fun m σ H'=>∃ (n':Nat) (ps:List Nat),σ=[some (.ref c),some (.int (n':Int)),some (.ref l),none]∧H'=upd H l (.lst (nV ps))∧m=t.length - n'∧n' ≤ t.length∧ps.length ≤ n'∧Cm.closeAt t n'=Cm.closeAt t n ∧
      (∀ p ∈ ps,p < t.length∧(Vafmta.closing (t.drop p)=none ↔ Vafmta.closing (t.drop n')=none)),⟨_,n,[],rfl,rfl,rfl,hn,Nat.zero_le _,rfl,fun p hp=>by cases hp⟩,?_⟩
    rintro m σ H' ⟨n',ps,rfl,rfl,rfl,hn',hps0,e1,hps⟩
    have C':=C.same (same_new (o:=.lst (nV ps)) hl)
    obtain ⟨dx,ho⟩:=C'.obj
    obtain ⟨kvs,hd,hz⟩:=C'.dic
    refine ⟨_,rfl,rf_Cutter_text g ho ⟨_,rfl,a,t,n',rfl,C'.txt,_,rfl,ite2 (fun h=>?_) (fun h=>?_)⟩⟩
    · refine ⟨_,rfl,_,rfl,rf_Cutter_unclosed g ho ⟨d,_,rfl,DGet.k (k:=Sum.inl (n':Int)) hd,_,rfl,?_⟩⟩
      obtain ⟨ch,hc,hne⟩:=Cm.goesOn_lt h
      have hlt:=(List.getElem?_eq_some_iff.mp hc).1
      cases ev:valV kvs (Sum.inl (n':Int)) with
      | some v =>
        refine iteF ?_
        exact rest n' ps e1 (hz.at_ ev) hps
      | none =>
        refine iteT ⟨_,fun _ _ z=>z,?_⟩
        refine ⟨_,rfl,rf_Cutter_text g ho ⟨_,rfl,_,_,_,_,rfl,rfl,SqL.of C'.txt,bV_at hc,rfl,_,rfl,ite2 (fun h1=>?_) (fun h1=>?_)⟩⟩
        · have hb:ch=Vafmta.QUOTE:=byte_is (k:=34) (by decide) (int_eq h1)
          refine ⟨_,rfl,?_⟩
          have e3:Cm.closeAt t n=(n':Int):=by
            rw [← e1]
            unfold Cm.closeAt
            rw [Cm.closing_quote_here (by rw [hc,hb])]
            simp
          have:=q _ (.of (same_new hl)) C'
          rw [e3] at this
          exact this
        · have hnq:ch ≠ Vafmta.QUOTE:=byte_not (k:=34) (by decide) (int_ne h1)
          obtain ⟨s1,s2⟩:=Cm.closeAt_step hc hne hnq
          have sp:=Cm.stepQ_pos t n'
          have sl:=Cm.stepQ_le hlt
          refine ⟨_,rfl,.inl ⟨rfl,_,SqL.of upd_same⟩,_,rfl,l,_,_,rfl,rfl,upd_same,lim1 (k:=100000) (by rw [nV_len]; have:=C.len; omega),?_⟩
          rw [upd_upd]
          have C2:=C.same (same_new (o:=.lst ((nV ps) ++ [V.int (n':Int)])) hl)
          obtain ⟨dx2,ho2⟩:=C2.obj
          refine ⟨_,rfl,_,rfl,rf_Cutter_text g ho2 ⟨_,rfl,a,t,n',ch,rfl,C2.txt,hc,_,_,rfl,rfl,?_⟩⟩
          refine ⟨t.length - (n' + Cm.stepQ t n'),by omega,n' + Cm.stepQ t n',ps ++ [n'],rfl,by rw [nV_append]; rfl,rfl,by omega,by rw [List.length_append]; simp; omega,by rw [← s1]; exact e1,fun p hp=>?_⟩
          rcases List.mem_append.mp hp with z | z
          · exact ⟨(hps p z).1,(hps p z).2.trans s2⟩
          · rw [List.mem_singleton.mp z]
            exact ⟨hlt,s2⟩
    · refine iteF ?_
      exact rest n' ps e1 (Cm.closing_not (eq_false_of_ne_true h)) hps
end
end Cb
end
section
set_option maxRecDepth 100000
set_option maxHeartbeats 4000000
namespace Cb
open PySem PySem.Spec PyProof.Rows L2
open Cm (bi)
section
variable {P:Program}{w:World}{K:PySem.W.Frag}{mg:Str->Option Value}{base:Heap}
def PieceAt (g:Pg K mg) (H:Hp) (x:Addr) (p:Vafmta.Piece):Prop:=PieceObj g H x (Vafmta.kindNo p.kind) (p.text.length:Int)
theorem PieceAt.same {g:Pg K mg}{H H':Hp}{x:Addr}{p:Vafmta.Piece} (h:PieceAt g H x p) (s:Same H H'):PieceAt g H' x p:=PieceObj.same h s
theorem PieceAt.but {g:Pg K mg}{H H':Hp}{x d:Addr}{p:Vafmta.Piece}{kvs:List (Key × V)} (h:PieceAt g H x p) (s:But d H H') (hd:H d=some (.dK kvs)):PieceAt g H' x p:=by
  obtain ⟨dx,h⟩:=h
  exact ⟨dx,s _ _ h (ne_of h hd (by intro q; cases q))⟩
theorem pieceAt_of {g:Pg K mg}{H:Hp}{x:Addr}{c:UInt8}{r:Vafmta.Bytes}{k:Vafmta.Kind}{n:Nat}{z:Int} (h:PieceObj g H x (Vafmta.kindNo k) z) (e:Vafmta.firstOf c r=(k,n)) (ez:z=(n:Int)):PieceAt g H x (MC.head c r):=by
  unfold PieceAt
  rw [MC.head_len]
  have e1:(MC.head c r).kind=k:=by unfold MC.head; rw [e]
  rw [e1,e]
  subst ez
  exact h
def sp_Cutter_quoted_or_odd (g:Pg K mg):Sp:=fun vs H Q _=>∃ (c a d:Addr) (t:Vafmta.Bytes) (n:Nat),vs=[.ref c,.int n]∧CutterAt g H c a d t∧t[n]?=some Vafmta.QUOTE ∧
  ∀ x H',But d H H'->H x=none->PieceAt g H' x (MC.head Vafmta.QUOTE (t.drop (n + 1)))->CutterAt g H' c a d t->Q (.ref x) H'
theorem first_quote (r:Vafmta.Bytes):Vafmta.firstOf Vafmta.QUOTE r=(match Vafmta.closing r with | some n=>(.quoted,n + 1) | none=>(.odd,1)):=by
  unfold Vafmta.firstOf
  rw [if_neg (by decide),if_neg (by decide),if_neg (by decide),if_neg (by decide),if_neg (by decide),if_pos rfl]
  cases Vafmta.closing r <;> rfl
theorem But.free {p x:Addr}{H H':Hp} (b:But p H H') (hp:∃ o,H p=some o) (h:H' x=none) (hp':∃ o,H' p=some o):H x=none:=by
  cases e:H x with
  | none=>rfl
  | some o =>
    exfalso
    by_cases q:x=p
    · obtain ⟨o',z⟩:=hp'
      rw [q,z] at h
      cases h
    · rw [b x o e q] at h
      cases h
theorem CutterAt.has {g:Pg K mg}{H:Hp}{c a d:Addr}{t:Vafmta.Bytes} (C:CutterAt g H c a d t):∃ o,H d=some o:=by
  obtain ⟨kvs,h,_⟩:=C.dic
  exact ⟨_,h⟩
theorem ok_Cutter_quoted_or_odd (g:Pg K mg):FnOk P w K mg base CX0 4 g.m_Cutter_quoted_or_odd.a g.m_Cutter_quoted_or_odd.fd ["self","place"] (sp_Cutter_quoted_or_odd g):=by
  refine g.m_Cutter_quoted_or_odd.F.ok sc_Cutter_quoted_or_odd (fun vs H Q E h=>?_) (fun cdv A outer s H vs Q E hr h=>?_)
  · obtain ⟨c,a,d,t,n,rfl,_⟩:=h; rfl
  · obtain ⟨c,a,d,t,n,rfl,C,hn,q⟩:=h
    refine ⟨_,(pss_cons (ps_set (i:=2) sc_Cutter_quoted_or_odd.nd rfl (Or.inl rfl) (pe_meth (pv 0) g.Cutter.cl g.m_Cutter_closing_quote.m (ok_Cutter_closing_quote g) (hr.mono (by decide)) g.m_Cutter_closing_quote.b .nil pass0 (pa_cons (pe_op op_add (pv 1) pe_int) pa_nil)))
      (pss_cons (ps_if (pt_cmpR op_lt (pv 2) pe_int (nomark _)) (pss_one (ps_ret (pe_make g.Piece.mk1 (ok_Piece_init g) (hr.mono (by decide)) rfl g.Piece.mg g.Piece.b .nil pass0 (pa_cons (pe_gint rfl g.g_ODD) (pa_cons pe_int pa_nil))))) pss_nil)
      (pss_one (ps_ret (pe_make g.Piece.mk1 (ok_Piece_init g) (hr.mono (by decide)) rfl g.Piece.mg g.Piece.b .nil pass0 (pa_cons (pe_gint rfl g.g_QUOTED) (pa_cons (pe_op op_sub (pe_op op_add (pv 2) pe_int) (pv 1)) pa_nil))))))),?_⟩
    obtain ⟨dx,ho⟩:=C.obj
    have hlt:=(List.getElem?_eq_some_iff.mp hn).1
    refine ⟨_,rfl,rm_Cutter_closing_quote g ho ⟨_,rfl,_,_,rfl,rfl,c,a,d,t,n + 1,rfl,C,by omega,fun H1 b1 C1=>?_⟩⟩
    refine ⟨_,rfl,_,_,rfl,rfl,_,rfl,ite2 (fun h=>?_) (fun h=>?_)⟩
    · have h0:=of_decide_eq_true h
      refine mk_Piece g fun x H2 nx s2 p=>?_
      refine q x H2 (b1.trans (.of s2)) (b1.free C.has nx C1.has) ?_ (C1.same s2)
      have e:Vafmta.closing (t.drop (n + 1))=none:=by
        cases e:Vafmta.closing (t.drop (n + 1)) with
        | none=>rfl
        | some k =>
          unfold Cm.closeAt at h0
          rw [e] at h0
          simp only at h0
          omega
      exact pieceAt_of (k:=.odd) (n:=1) p (by rw [first_quote,e]) rfl
    · have h0:¬ Cm.closeAt t (n + 1) < 0:=fun z=>h (decide_eq_true z)
      refine ⟨_,rfl,_,_,rfl,rfl,_,rfl,_,_,rfl,rfl,?_⟩
      refine mk_Piece g fun x H2 nx s2 p=>?_
      refine q x H2 (b1.trans (.of s2)) (b1.free C.has nx C1.has) ?_ (C1.same s2)
      cases e:Vafmta.closing (t.drop (n + 1)) with
      | none =>
        exfalso
        unfold Cm.closeAt at h0
        rw [e] at h0
        exact h0 (show (-1:Int) < 0 by decide)
      | some k =>
        have hk:=MC.closing_bound _ _ k (Nat.le_refl _) e
        refine pieceAt_of (k:=.quoted) (n:=k + 1) p (by rw [first_quote,e]) ?_
        unfold Cm.closeAt
        rw [e]
        simp only
        omega
def sp_sign_or_odd (g:Pg K mg):Sp:=fun vs H Q _=>∃ (a:Addr) (t:Vafmta.Bytes) (n:Nat) (c:UInt8),vs=[.ref a,.int n]∧TextAt H a t∧t[n]?=some c ∧
  ∀ x H',Same H H'->H x=none->PieceObj g H' x (if Vafmta.signLength c (t.drop (n + 1))=0 then 7 else 6) (if Vafmta.signLength c (t.drop (n + 1))=0 then 1 else (Vafmta.signLength c (t.drop (n + 1)):Int))->Q (.ref x) H'
theorem dp_ints2 {K:PySem.W.Frag}{H:Hp}{p:Addr}{i j:Int} (h:SqT K H p [.int i,.int j]):Dp K H (.ref p) (.tuple [.int i,.int j]):=.tup h (.cons (.int i) (.cons (.int j) .nil))
theorem dp_pairs (g:Pg K mg) (H:Hp):Dp K H (.ref g.g_PAIR_SIGNS.a) (.tuple [.tuple [.int 61,.int 62],.tuple [.int 61,.int 61],.tuple [.int 33,.int 61],.tuple [.int 60,.int 61],.tuple [.int 62,.int 61],.tuple [.int 38,.int 38],.tuple [.int 124,.int 124]]):=by
  obtain ⟨a,m,as,s,p⟩:=g.g_PAIR_SIGNS
  show Dp K H (.ref a) _
  have p:=p H
  have s:=s H
  cases p with | cons p1 p=>cases p with | cons p2 p=>cases p with | cons p3 p=>cases p with | cons p4 p=>cases p with | cons p5 p=>cases p with | cons p6 p=>cases p with | cons p7 p =>
  cases p
  exact .tup s (.cons (dp_ints2 p1) (.cons (dp_ints2 p2) (.cons (dp_ints2 p3) (.cons (dp_ints2 p4) (.cons (dp_ints2 p5) (.cons (dp_ints2 p6) (.cons (dp_ints2 p7) .nil)))))))
theorem eqv2 (a b x y:Int):PyData.eqv (.tuple [.int a,.int b]) (.tuple [.int x,.int y])=(a == x && b == y):=by
  simp [PyData.eqv,PyData.eqvAll]
theorem pairs_any (c d:UInt8):([.tuple [.int 61,.int 62],.tuple [.int 61,.int 61],.tuple [.int 33,.int 61],.tuple [.int 60,.int 61],.tuple [.int 62,.int 61],.tuple [.int 38,.int 38],.tuple [.int 124,.int 124]]:List PyData).any (fun e=>PyData.eqv e (.tuple [.int (bi c),.int (bi d)]))=Vafmta.pairs.contains (c,d):=by
  rw [← Cm.pair_is]
  simp only [List.any_cons,List.any_nil,eqv2]
theorem shaped2 (i j:Int):SeqAt.shaped (.tuple [.int i,.int j])=true:=by
  simp [SeqAt.shaped,PyData.canLay0,PyData.canLayAll0,PyData.depth,PyData.depthAll]
theorem ok_sign_or_odd (g:Pg K mg):FnOk P w K mg base CX0 3 g.f_sign_or_odd.a g.f_sign_or_odd.fd ["text","place"] (sp_sign_or_odd g):=by
  refine g.f_sign_or_odd.F.ok sc_sign_or_odd (fun vs H Q E h=>?_) (fun cdv A outer s H vs Q E hr h=>?_)
  · obtain ⟨a,t,n,c,rfl,_⟩:=h; rfl
  · obtain ⟨a,t,n,c,rfl,ht,hn,q⟩:=h
    have hu65:=room65 hr
    refine ⟨_,(pss_cons (ps_if (PW.pt (pw_and (pt_cmpR op_lt (pe_op op_add (pv 1) pe_int) (pe_callB call_len_seq (by rfl) g.n_len PySem.boot_len (pa_cons (pv 0) pa_nil)) (nomark _)) (pw_and1 (pt_cmpR (op_in_tups hu65) (pe_tup (pa_cons (pe_ix ix_list (pv 0) (pv 1) (fun _ _=>rfl)) (pa_cons (pe_ix ix_list (pv 0) (pe_op op_add (pv 1) pe_int) (fun _ _=>rfl)) pa_nil))) (pe_glob (v:=.ref g.g_PAIR_SIGNS.a) rfl g.g_PAIR_SIGNS.m rfl) (by rfl))))) (pss_one (ps_ret (pe_make g.Piece.mk1 (ok_Piece_init g) (hr.mono (by decide)) rfl g.Piece.mg g.Piece.b .nil pass0 (pa_cons (pe_gint rfl g.g_SIGN) (pa_cons pe_int pa_nil))))) pss_nil)
      (pss_cons (ps_if (pt_cmpR op_in_seq (pe_ix ix_list (pv 0) (pv 1) (fun _ _=>rfl)) (pe_glob (v:=.ref g.g_LONE_SIGNS.a) rfl g.g_LONE_SIGNS.m rfl) (by rfl)) (pss_one (ps_ret (pe_make g.Piece.mk1 (ok_Piece_init g) (hr.mono (by decide)) rfl g.Piece.mg g.Piece.b .nil pass0 (pa_cons (pe_gint rfl g.g_SIGN) (pa_cons pe_int pa_nil))))) pss_nil)
      (pss_one (ps_ret (pe_make g.Piece.mk1 (ok_Piece_init g) (hr.mono (by decide)) rfl g.Piece.mg g.Piece.b .nil pass0 (pa_cons (pe_gint rfl g.g_ODD) (pa_cons pe_int pa_nil))))))),?_⟩
    have single:∀ H1,Same H H1->Vafmta.signLength c (t.drop (n + 1))=(if Vafmta.singles.contains c then 1 else 0) →
        tSeq (tIfS (tTest (tOp (rIn K false) (tOp (rIxL K) (tVar 0) (tVar 1)) (tC (.ref g.g_LONE_SIGNS.a)))) (tRet (tMake g.Piece.C (sp_Piece_init g) [] E0 (tCons (tC (.int 6)) (tCons (tC (.int 1)) tNil)))) tNext)
          (tRet (tMake g.Piece.C (sp_Piece_init g) [] E0 (tCons (tC (.int 7)) (tCons (tC (.int 1)) tNil)))) { nx:=fun _ H'=>Q .non H',rt:=Q } [some (.ref a),some (.int (n:Int))] H1:=by
      intro H1 s1 es
      have ht1:TextAt H1 a t:=s1 _ _ ht
      refine ⟨_,rfl,_,rfl,_,_,_,_,rfl,rfl,SqL.of ht1,bV_at hn,_,_,rfl,.inr (g.g_LONE_SIGNS.s H1),rfl,rfl,_,rfl,?_⟩
      have el:(if false then !inV (V.int (bi c)) [.int 33,.int 37,.int 40,.int 41,.int 42,.int 43,.int 44,.int 45,.int 46,.int 47,.int 58,.int 59,.int 60,.int 61,.int 62,.int 91,.int 93,.int 123,.int 125] else inV (V.int (bi c)) [.int 33,.int 37,.int 40,.int 41,.int 42,.int 43,.int 44,.int 45,.int 46,.int 47,.int 58,.int 59,.int 60,.int 61,.int 62,.int 91,.int 93,.int 123,.int 125])=Vafmta.singles.contains c:=by
        rw [← Cm.lone_is]
        rfl
      rw [el]
      refine ite2 (fun h=>?_) (fun h=>?_)
      · refine mk_Piece g fun x H2 nx s2 p=>?_
        rw [if_pos h] at es
        refine q x H2 (s1.trans s2) (s1.free nx) ?_
        rw [es,if_neg (by decide),if_neg (by decide)]
        exact p
      · refine mk_Piece g fun x H2 nx s2 p=>?_
        rw [if_neg h] at es
        refine q x H2 (s1.trans s2) (s1.free nx) ?_
        rw [es,if_pos rfl,if_pos rfl]
        exact p
    refine ⟨_,rfl,_,_,rfl,rfl,_,rfl,_,_,rfl,.inl (SqL.of ht),_,_,rfl,rfl,_,rfl,ite2 (fun h=>?_) (fun h=>?_)⟩
    · have hl:=of_decide_eq_true h
      rw [bV_len] at hl
      obtain ⟨d,hd,ed⟩:=Cm.drop_lt (t:=t) (n:=n + 1) (by omega)
      refine ⟨_,rfl,_,rfl,_,_,_,_,rfl,rfl,SqL.of ht,bV_at hn,_,rfl,_,rfl,_,_,rfl,rfl,_,_,_,_,rfl,rfl,SqL.of ht,bV_at hd,(by show 2 ≤ sizeLine; decide),fun p hp=>?_⟩
      refine ⟨_,_,dp_ints2 (SqT.of upd_same),dp_pairs g _,shaped2 _ _,(by decide +kernel),_,rfl,?_⟩
      rw [pairs_any]
      refine ite2 (fun h1=>?_) (fun h1=>?_)
      · refine mk_Piece g fun x H2 nx s2 p2=>?_
        have es:Vafmta.signLength c (t.drop (n + 1))=2:=by rw [ed]; unfold Vafmta.signLength; simp only; rw [if_pos h1]
        refine q x H2 ((same_new hp).trans s2) ((same_new hp).free nx) ?_
        rw [es,if_neg (by decide),if_neg (by decide)]
        exact p2
      · refine single _ (same_new hp) ?_
        rw [ed]
        unfold Vafmta.signLength
        simp only
        rw [if_neg h1]
    · have hl:¬ (n:Int) + 1 < (bV t).length:=fun z=>h (decide_eq_true z)
      rw [bV_len] at hl
      refine iteF ?_
      refine single H (.refl H) ?_
      rw [List.drop_eq_nil_of_le (by omega)]
      rfl
def sp_Cutter_piece_at (g:Pg K mg):Sp:=fun vs H Q _=>∃ (c a d:Addr) (t:Vafmta.Bytes) (n:Nat) (ch:UInt8),vs=[.ref c,.int n]∧CutterAt g H c a d t∧t[n]?=some ch ∧
  ∀ x H',But d H H'->H x=none->PieceAt g H' x (MC.head ch (t.drop (n + 1)))->CutterAt g H' c a d t->Q (.ref x) H'
theorem ok_Cutter_piece_at (g:Pg K mg):FnOk P w K mg base CX0 5 g.m_Cutter_piece_at.a g.m_Cutter_piece_at.fd ["self","place"] (sp_Cutter_piece_at g):=by
  refine g.m_Cutter_piece_at.F.ok sc_Cutter_piece_at (fun vs H Q E h=>?_) (fun cdv A outer s H vs Q E hr h=>?_)
  · obtain ⟨c,a,d,t,n,ch,rfl,_⟩:=h; rfl
  · obtain ⟨c,a,d,t,n,ch,rfl,C,hn,q⟩:=h
    refine ⟨_,(pss_cons (ps_set (i:=2) sc_Cutter_piece_at.nd rfl (Or.inl rfl) (pe_ix ix_list (pe_fld (pv 0) rfl) (pv 1) (fun _ _=>rfl)))
      (pss_cons (ps_if (pt_cmpR op_eq (pv 2) (pe_gint rfl g.g_BLANK_BYTE) (nomark _)) (pss_one (ps_ret (pe_make g.Piece.mk1 (ok_Piece_init g) (hr.mono (by decide)) rfl g.Piece.mg g.Piece.b .nil pass0 (pa_cons (pe_gint rfl g.g_BLANK) (pa_cons pe_int pa_nil))))) pss_nil)
      (pss_cons (ps_if (pt_cmpR op_eq (pv 2) (pe_gint rfl g.g_LINE_END_BYTE) (nomark _)) (pss_one (ps_ret (pe_make g.Piece.mk1 (ok_Piece_init g) (hr.mono (by decide)) rfl g.Piece.mg g.Piece.b .nil pass0 (pa_cons (pe_gint rfl g.g_LINE_END) (pa_cons pe_int pa_nil))))) pss_nil)
      (pss_cons (ps_if (pt_cmpR op_eq (pv 2) (pe_gint rfl g.g_HASH_BYTE) (nomark _)) (pss_one (ps_ret (pe_make g.Piece.mk1 (ok_Piece_init g) (hr.mono (by decide)) rfl g.Piece.mg g.Piece.b .nil pass0 (pa_cons (pe_gint rfl g.g_COMMENT) (pa_cons (pe_op op_sub (pe_call (ok_rest_end g) (hr.mono (by decide)) rfl g.f_rest_end.m g.f_rest_end.F.kp g.f_rest_end.b .nil pass0 (pa_cons (pe_fld (pv 0) rfl) (pa_cons (pv 1) pa_nil))) (pv 1)) pa_nil))))) pss_nil)
      (pss_cons (ps_if (pt_val (pe_call (ok_is_letter g) (hr.mono (by decide)) rfl g.f_is_letter.m g.f_is_letter.F.kp g.f_is_letter.b .nil pass0 (pa_cons (pv 2) pa_nil))) (pss_one (ps_ret (pe_make g.Piece.mk1 (ok_Piece_init g) (hr.mono (by decide)) rfl g.Piece.mg g.Piece.b .nil pass0 (pa_cons (pe_gint rfl g.g_WORD) (pa_cons (pe_op op_sub (pe_call (ok_word_end g) (hr.mono (by decide)) rfl g.f_word_end.m g.f_word_end.F.kp g.f_word_end.b .nil pass0 (pa_cons (pe_fld (pv 0) rfl) (pa_cons (pv 1) pa_nil))) (pv 1)) pa_nil))))) pss_nil)
      (pss_cons (ps_if (pt_val (pe_call (ok_is_digit g) (hr.mono (by decide)) rfl g.f_is_digit.m g.f_is_digit.F.kp g.f_is_digit.b .nil pass0 (pa_cons (pv 2) pa_nil))) (pss_one (ps_ret (pe_make g.Piece.mk1 (ok_Piece_init g) (hr.mono (by decide)) rfl g.Piece.mg g.Piece.b .nil pass0 (pa_cons (pe_gint rfl g.g_NUMBER) (pa_cons (pe_op op_sub (pe_call (ok_number_end g) (hr.mono (by decide)) rfl g.f_number_end.m g.f_number_end.F.kp g.f_number_end.b .nil pass0 (pa_cons (pe_fld (pv 0) rfl) (pa_cons (pv 1) pa_nil))) (pv 1)) pa_nil))))) pss_nil)
      (pss_cons (ps_if (pt_cmpR op_eq (pv 2) (pe_gint rfl g.g_QUOTE_BYTE) (nomark _)) (pss_one (ps_ret (pe_meth (pv 0) g.Cutter.cl g.m_Cutter_quoted_or_odd.m (ok_Cutter_quoted_or_odd g) (hr.mono (by decide)) g.m_Cutter_quoted_or_odd.b .nil pass0 (pa_cons (pv 1) pa_nil)))) pss_nil)
      (pss_one (ps_ret (pe_call (ok_sign_or_odd g) (hr.mono (by decide)) rfl g.f_sign_or_odd.m g.f_sign_or_odd.F.kp g.f_sign_or_odd.b .nil pass0 (pa_cons (pe_fld (pv 0) rfl) (pa_cons (pv 1) pa_nil)))))))))))),?_⟩
    obtain ⟨dx,ho⟩:=C.obj
    have hlt:=(List.getElem?_eq_some_iff.mp hn).1
    have fin:∀ (k:Vafmta.Kind) (m:Nat) (z:Int),Vafmta.firstOf ch (t.drop (n + 1))=(k,m)->z=(m:Int)->∀ x H',H x=none->Same H H'->PieceObj g H' x (Vafmta.kindNo k) z->Q (.ref x) H' :=
      fun k m z e ez x H' nx s p=>q x H' (.of s) nx (pieceAt_of p e ez) (C.same s)
    refine ⟨_,rfl,rf_Cutter_text g ho ⟨_,rfl,_,_,_,_,rfl,rfl,SqL.of C.txt,bV_at hn,?_⟩⟩
    refine ⟨_,rfl,rfl,_,rfl,ite2 (fun h1=>?_) (fun h1=>?_)⟩
    · have e:ch=Vafmta.BLANK:=byte_is (k:=32) (by decide) (int_eq h1)
      refine mk_Piece g (fin .blank 1 1 ?_ rfl)
      rw [e,MC.kind_blank]
    have n1:ch ≠ Vafmta.BLANK:=byte_not (k:=32) (by decide) (int_ne h1)
    refine ⟨_,rfl,rfl,_,rfl,ite2 (fun h2=>?_) (fun h2=>?_)⟩
    · have e:ch=Vafmta.LINE:=byte_is (k:=10) (by decide) (int_eq h2)
      refine mk_Piece g (fin .line 1 1 ?_ rfl)
      rw [e,MC.kind_line]
    have n2:ch ≠ Vafmta.LINE:=byte_not (k:=10) (by decide) (int_ne h2)
    refine ⟨_,rfl,rfl,_,rfl,ite2 (fun h3=>?_) (fun h3=>?_)⟩
    · have e:ch=Vafmta.HASH:=byte_is (k:=35) (by decide) (int_eq h3)
      refine ⟨_,rfl,rf_Cutter_text g ho ⟨_,rfl,a,t,n,rfl,C.txt,by omega,_,rfl,_,_,rfl,rfl,?_⟩⟩
      refine mk_Piece g (fin .comment _ _ (by rw [e,MC.kind_hash]) ?_)
      have:Cm.runEnd (fun b=>b != Vafmta.LINE) t n=n + 1 + ((t.drop (n + 1)).takeWhile fun b=>b != Vafmta.LINE).length:=by rw [Cm.runEnd_step hn (by rw [e]; decide)]; rfl
      rw [this]
      omega
    have n3:ch ≠ Vafmta.HASH:=byte_not (k:=35) (by decide) (int_ne h3)
    refine ⟨_,rfl,_,rfl,_,rfl,ite2 (fun h4=>?_) (fun h4=>?_)⟩
    · rw [Cm.let_bi] at h4
      refine ⟨_,rfl,rf_Cutter_text g ho ⟨_,rfl,a,t,n,rfl,C.txt,by omega,_,rfl,_,_,rfl,rfl,?_⟩⟩
      refine mk_Piece g (fin .word (1 + ((t.drop (n + 1)).takeWhile Vafmta.isWordByte).length) _ (by unfold Vafmta.firstOf; rw [if_neg n1,if_neg n2,if_neg n3,if_pos h4]) ?_)
      have:Cm.runEnd Vafmta.isWordByte t n=n + 1 + ((t.drop (n + 1)).takeWhile Vafmta.isWordByte).length:=by rw [Cm.runEnd_step hn (by unfold Vafmta.isWordByte; rw [h4]; rfl)]; rfl
      rw [this]
      omega
    rw [Cm.let_bi] at h4
    refine ⟨_,rfl,_,rfl,_,rfl,ite2 (fun h5=>?_) (fun h5=>?_)⟩
    · rw [Cm.dig_bi] at h5
      refine ⟨_,rfl,rf_Cutter_text g ho ⟨_,rfl,a,t,n,rfl,C.txt,by omega,_,rfl,_,_,rfl,rfl,?_⟩⟩
      refine mk_Piece g (fin .number (Vafmta.numberLength (t.drop (n + 1))) _ (by unfold Vafmta.firstOf; rw [if_neg n1,if_neg n2,if_neg n3,if_neg h4,if_pos h5]) ?_)
      rw [Cm.numEnd_is hn h5]
      omega
    rw [Cm.dig_bi] at h5
    refine ⟨_,rfl,rfl,_,rfl,ite2 (fun h6=>?_) (fun h6=>?_)⟩
    · have e:ch=Vafmta.QUOTE:=byte_is (k:=34) (by decide) (int_eq h6)
      subst e
      exact ⟨_,rfl,rm_Cutter_quoted_or_odd g ho ⟨_,rfl,c,a,d,t,n,rfl,C,hn,q⟩⟩
    have n6:ch ≠ Vafmta.QUOTE:=byte_not (k:=34) (by decide) (int_ne h6)
    refine ⟨_,rfl,rf_Cutter_text g ho ⟨_,rfl,a,t,n,ch,rfl,C.txt,hn,fun x H' s nx p=>?_⟩⟩
    have ef:Vafmta.firstOf ch (t.drop (n + 1))=if Vafmta.signLength ch (t.drop (n + 1))=0 then (.odd,1) else (.sign,Vafmta.signLength ch (t.drop (n + 1))):=by
      unfold Vafmta.firstOf
      rw [if_neg n1,if_neg n2,if_neg n3,if_neg h4,if_neg h5,if_neg n6]
    by_cases hz:Vafmta.signLength ch (t.drop (n + 1))=0
    · rw [if_pos hz,if_pos hz] at p
      rw [if_pos hz] at ef
      exact fin .odd 1 1 ef rfl x H' nx s p
    · rw [if_neg hz,if_neg hz] at p
      rw [if_neg hz] at ef
      exact fin .sign _ _ ef rfl x H' nx s p
end
end Cb
end
section
set_option maxRecDepth 1000000
set_option maxHeartbeats 4000000
namespace Cb
open PySem PySem.Spec PyProof.Rows L2
open Cm (bi)
theorem pe_fldk {X:Cx}{K:PySem.W.Frag}{e:Expr}{f:Str}{pos:Pos}{ta:TE} (hK:X.K=K) (he:PE X e ta) (hb:attributeBase e f X.env (eval e X.env)=eval e X.env):PE X (.Attribute e f pos) (tFld K ta f):=by
  subst hK
  exact pe_fld he hb
theorem blk_by {X:Cx}{N:List Str}{sc scope:Scope}{own:List (Str × Nat)} (hN:X.N=N) (hs:X.env.scope=sc) (h:blkC N sc scope own=true):BlkOk X.N X.env.scope scope own:=by
  rw [hN,hs]
  exact blkOk_by h
theorem lc_ix {K:PySem.W.Frag}{a:Addr}{xs:List V}{g:TG}{tt:TT}{te:TE}{vs:List Nat}{σ:L2.St}{H1:Hp}{D:Addr}{Qd:Hp->Prop} (ys:Nat->List V) (h0:ys 0=[]) (hz:∀ i,i < xs.length->(ys i).length < sizeLine) (hD:H1 D=none) (hl:SqL K H1 a xs)
    (hs:∀ i x H,xs[i]?=some x->Same H1 H->∀ (C:VK) (N0:Hp->Prop),(∀ y,ys (i + 1)=ys i ++ [y]->C y H)->(ys (i + 1)=ys i->N0 H) →
      g x (wipe σ vs) H fun σ2 H2=>wipe σ2 vs=wipe σ vs∧tt σ2 H2 fun b H3=>if b=true then te σ2 H3 C else N0 H3)
    (hd:Qd (upd H1 D (.lst (ys xs.length)))) :
    ∃ W:Nat->Nat->Hp->Prop,(∃ m,W 0 m (upd H1 D (.lst [])))∧∀ i m H,W i m H →
      ((Itl K a).stop i H∧Qd H) ∨ ((Itl K a).go i H∧∃ Nx:Hp->Prop,(∀ H',Nx H'->∃ m',m' < m∧W (i + 1) m' H')∧∀ x H',(Itl K a).yld i H x H'->g x (wipe σ vs) H' fun σ2 H2=>wipe σ2 vs=wipe σ vs∧tt σ2 H2 fun b H3 =>
        if b=true then te σ2 H3 fun y H4=>∃ acc,H4 D=some (.lst acc)∧acc.length < sizeLine∧Nx (upd H4 D (.lst (acc ++ [y]))) else Nx H3):=by
  refine lc_list (xs:=xs) (fun i H=>H=upd H1 D (.lst (ys i))) (by rw [h0]) (fun i H _ e=>?_) (fun i x H hx e=>?_) (fun H e=>by rw [e]; exact hd)
  · rw [e]
    exact (same_new hD).seq hl
  · have hlt:=(List.getElem?_eq_some_iff.mp hx).1
    refine hs i x H hx (by rw [e]; exact same_new hD) _ _ (fun y ey=>?_) (fun ey=>?_)
    · refine ⟨ys i,by rw [e]; exact upd_same,hz i hlt,?_⟩
      rw [e,upd_upd,ey]
    · rw [e,ey]
section
variable {P:Program}{w:World}{K:PySem.W.Frag}{mg:Str->Option Value}{base:Heap}
def StretchAt (g:Pg K mg) (N:Addr->Prop) (H:Hp) (x:Addr) (s:Vafmta.Stretch) (c:Bool):Prop :=
  ∃ (dx l:Addr) (as:List Addr),N l∧H x=some (.ins g.Stretch.C dx (fStretch l c (Vafmta.sizeOf_ s:Int) ((Vafmta.tokenPieces s).length:Int)))∧H l=some (.lst (as.map V.ref))∧Ats (PieceAt g H) as s
theorem StretchAt.same {g:Pg K mg}{N:Addr->Prop}{H H':Hp}{x:Addr}{s:Vafmta.Stretch}{c:Bool} (h:StretchAt g N H x s c) (e:Same H H'):StretchAt g N H' x s c:=by
  obtain ⟨dx,l,as,h0,h1,h2,h3⟩:=h
  exact ⟨dx,l,as,h0,e _ _ h1,e _ _ h2,h3.imp fun a p z=>z.same e⟩
theorem StretchAt.but {g:Pg K mg}{N:Addr->Prop}{H H':Hp}{x d:Addr}{s:Vafmta.Stretch}{c:Bool}{kvs:List (Key × V)} (h:StretchAt g N H x s c) (e:But d H H') (hd:H d=some (.dK kvs)):StretchAt g N H' x s c:=by
  obtain ⟨dx,l,as,h0,h1,h2,h3⟩:=h
  exact ⟨dx,l,as,h0,e _ _ h1 (ne_of h1 hd (by intro q; cases q)),e _ _ h2 (ne_of h2 hd (by intro q; cases q)),h3.imp fun a p z=>z.but e hd⟩
theorem StretchAt.mono {g:Pg K mg}{N N':Addr->Prop}{H:Hp}{x:Addr}{s:Vafmta.Stretch}{c:Bool} (h:StretchAt g N H x s c) (e:∀ a,N a->N' a):StretchAt g N' H x s c:=by
  obtain ⟨dx,l,as,h0,h1,h2,h3⟩:=h
  exact ⟨dx,l,as,e _ h0,h1,h2,h3⟩
theorem PieceAt.lst {g:Pg K mg}{H:Hp}{x l:Addr}{p:Vafmta.Piece}{ys:List V}{o:HO} (h:PieceAt g H x p) (hl:H l=some (.lst ys)):PieceAt g (upd H l o) x p:=by
  obtain ⟨dx,h⟩:=h
  exact ⟨dx,by rw [upd_ne (ne_of h hl (by intro q; cases q))]; exact h⟩
theorem StretchAt.lst {g:Pg K mg}{N:Addr->Prop}{H:Hp}{x l:Addr}{s:Vafmta.Stretch}{c:Bool}{ys:List V}{o:HO} (h:StretchAt g N H x s c) (hl:H l=some (.lst ys)) (n:¬ N l):StretchAt g N (upd H l o) x s c:=by
  obtain ⟨dx,l',as,h0,h1,h2,h3⟩:=h
  refine ⟨dx,l',as,h0,?_,?_,h3.imp fun a p z=>z.lst hl⟩
  · rw [upd_ne (ne_of h1 hl (by intro q; cases q))]; exact h1
  · rw [upd_ne (fun e=>n (by rw [← e]; exact h0))]; exact h2
def sp_Stretch_init (g:Pg K mg):Sp:=fun vs H Q _=>∃ (p dx l:Addr) (c:Bool) (as:List Addr) (s:Vafmta.Stretch),vs=[.ref p,.ref l,.bl c]∧H p=some (.ins g.Stretch.C dx [])∧H l=some (.lst (as.map V.ref))∧Ats (PieceAt g H) as s∧s.length ≤ 1000000 ∧
  ∀ H',But p H H'->H' p=some (.ins g.Stretch.C dx (fStretch l c (Vafmta.sizeOf_ s:Int) ((Vafmta.tokenPieces s).length:Int)))->Q .non H'
theorem ok_Stretch_init (g:Pg K mg):FnOk P w K mg base CX0 2 g.Stretch.a g.Stretch.fd ["self","pieces","closed"] (sp_Stretch_init g):=by
  refine g.Stretch.F.ok sc_Stretch_init (fun vs H Q E h=>?_) (fun cdv A outer s H vs Q E hr h=>?_)
  · obtain ⟨p,dx,l,c,as,s,rfl,_⟩:=h; rfl
  · obtain ⟨p,dx,l,c,as,ps,rfl,hp,hl,ha,hn,q⟩:=h
    refine ⟨_,(pss_cons (ps_fld (pv 0) (pv 1) rfl)
      (pss_cons (ps_fld (pv 0) (pv 2) rfl)
      (pss_cons (ps_fld (pv 0) (pe_callB (cr_sum rfl) (by rfl) g.n_sum PyProof.Rows.boot_sum (pa_cons (pe_lc rfl sc_Stretch_init.nd (pi_list (pv 1)) (own:=[("piece",3)]) (blk_by (N:=["self","pieces","closed","piece"]) (sc:=defScope s_Stretch_init) rfl rfl (by decide +kernel)) (fun _ _ _ _ _=>pg_name (i:=3) sc_Stretch_init.nd rfl (Or.inl rfl)) (fun _ _ _ _ _=>pts_nil) (fun _ _ _ _ _=>(pe_fldk (K:=K) rfl (pv 3) rfl))) pa_nil)) rfl)
      (pss_one (ps_fld (pv 0) (pe_callB call_len_seq (by rfl) g.n_len PySem.boot_len (pa_cons (pe_lc rfl sc_Stretch_init.nd (pi_list (pv 1)) (own:=[("piece",3)]) (blk_by (N:=["self","pieces","closed","piece"]) (sc:=defScope s_Stretch_init) rfl rfl (by decide +kernel)) (fun _ _ _ _ _=>pg_name (i:=3) sc_Stretch_init.nd rfl (Or.inl rfl)) (fun _ _ _ _ _=>(pts_one (pt_val (pe_call (ok_is_token g) (hr.mono (by decide)) rfl g.f_is_token.m g.f_is_token.F.kp g.f_is_token.b .nil pass0 (pa_cons (pe_fldk (K:=K) rfl (pv 3) rfl) pa_nil))))) (fun _ _ _ _ _=>(pv 3))) pa_nil)) rfl))))),?_⟩
    have hlp:l ≠ p:=ne_of hl hp (by intro z; cases z)
    have piece:∀ {H1:Hp},But p H H1->∀ {i:Nat}{a:Addr}{x:Vafmta.Piece},as[i]?=some a->ps[i]?=some x->PieceAt g H1 a x:=by
      intro H1 b i a x e1 e2
      obtain ⟨dz,hz⟩:=ha.2 i a x e1 e2
      refine ⟨dz,b _ _ hz ?_⟩
      intro e
      rw [e,hp] at hz
      have:=Option.some.inj hz
      injection this with z1 z2 z3
      cases z3
    refine ⟨_,rfl,_,rfl,fsto hp g.Stretch.cl (g.Stretch.na _ (by decide +kernel)) (by simp) (pi_Stretch_pieces (x1:=c) (x2:=0) (x3:=0)) ?_⟩
    refine ⟨_,rfl,_,rfl,fsto upd_same g.Stretch.cl (g.Stretch.na _ (by decide +kernel)) (by simp) (pi_Stretch_closed (x2:=0) (x3:=0)) ?_⟩
    rw [upd_upd]
    generalize e2:upd H p (.ins g.Stretch.C dx [("pieces",.ref l),("closed",.bl c)])=H2
    have b2:But p H H2:=by rw [← e2]; exact .upd
    have hp2:H2 p=some (.ins g.Stretch.C dx [("pieces",.ref l),("closed",.bl c)]):=by rw [← e2]; exact upd_same
    have hl2:H2 l=some (.lst (as.map V.ref)):=b2 _ _ hl hlp
    refine ⟨_,rfl,l,rfl,⟨_,SqL.of hl2⟩,fun D hD=>lc_ix (xs:=as.map V.ref) (fun i=>(ps.take i).map fun x=>V.int (x.text.length:Int)) rfl (fun i hi=>?_) hD (SqL.of hl2) (fun i v H3 hi s3 C N0 h1 h0=>?_) ?_⟩
    · rw [List.length_map] at hi ⊢
      exact lim1 (k:=1000000) (by rw [List.length_take]; omega)
    · obtain ⟨a,ea,rfl⟩:=ref_get hi
      obtain ⟨x,ex,_⟩:=ha.get ea
      obtain ⟨dz,hz⟩:=piece (b2.trans (.of s3)) ea ex
      refine ⟨rfl,_,rfl,rf_Piece_size g hz (h1 _ ?_)⟩
      show (ps.take (i + 1)).map _=(ps.take i).map _ ++ _
      rw [take_snoc ex,List.map_append]
      rfl
    have sD:Same H2 (upd H2 D (.lst ((ps.take (as.map V.ref).length).map fun x=>V.int (x.text.length:Int)))):=same_new hD
    refine ⟨D,ps.map fun x=>(x.text.length:Int),rfl,SqL.of ?_,?_⟩
    · rw [upd_same,List.length_map,ha.1,List.take_length,List.map_map]
      rfl
    generalize e3:upd H2 D (.lst ((ps.take (as.map V.ref).length).map fun x=>V.int (x.text.length:Int)))=H3 at sD
    rw [Cm.size_sum]
    refine ⟨_,rfl,fsto (sD _ _ hp2) g.Stretch.cl (g.Stretch.na _ (by decide +kernel)) (by simp) (pi_Stretch_size (x3:=0)) ?_⟩
    generalize e4:upd H3 p (.ins g.Stretch.C dx [("pieces",.ref l),("closed",.bl c),("size",.int (Vafmta.sizeOf_ ps:Int))])=H4
    have b4:But p H H4:=by rw [← e4]; exact (b2.trans (.of sD)).trans .upd
    have hp4:H4 p=some (.ins g.Stretch.C dx [("pieces",.ref l),("closed",.bl c),("size",.int (Vafmta.sizeOf_ ps:Int))]):=by rw [← e4]; exact upd_same
    have hl4:H4 l=some (.lst (as.map V.ref)):=b4 _ _ hl hlp
    refine ⟨_,rfl,l,rfl,⟨_,SqL.of hl4⟩,fun D2 hD2=>lc_ix (xs:=as.map V.ref) (fun i=>((((as.zip ps).take i).filter fun z=>z.2.isToken)).map fun z=>V.ref z.1) rfl (fun i hi=>?_) hD2 (SqL.of hl4) (fun i v H5 hi s5 C N0 h1 h0=>?_) ?_⟩
    · rw [List.length_map] at hi ⊢
      refine lim1 (k:=1000000) (Nat.le_trans (List.length_filter_le _ _) ?_)
      rw [List.length_take,List.length_zip,ha.1,Nat.min_self]
      omega
    · obtain ⟨a,ea,rfl⟩:=ref_get hi
      obtain ⟨x,ex,_⟩:=ha.get ea
      obtain ⟨dz,hz⟩:=piece (b4.trans (.of s5)) ea ex
      have ez:(as.zip ps)[i]?=some (a,x):=by rw [List.getElem?_zip_eq_some]; exact ⟨ea,ex⟩
      refine ⟨rfl,_,rfl,rf_Piece_kind g hz ⟨_,rfl,_,rfl,?_⟩⟩
      rw [Cm.kindNo_tok]
      refine ite2 (fun ht=>⟨_,rfl,h1 _ ?_⟩) (fun ht=>h0 ?_)
      · show (((as.zip ps).take (i + 1)).filter _).map _=_
        rw [take_snoc ez,List.filter_append,List.map_append,List.filter_cons,if_pos ht]
        rfl
      · show (((as.zip ps).take (i + 1)).filter _).map _=_
        rw [take_snoc ez,List.filter_append,List.map_append,List.filter_cons,if_neg ht,List.filter_nil,List.map_nil,List.append_nil]
    have sD2:=same_new (o:=.lst (((((as.zip ps).take (as.map V.ref).length).filter fun z=>z.2.isToken)).map fun z=>V.ref z.1)) hD2
    refine ⟨_,_,rfl,.inl (SqL.of upd_same),?_⟩
    have el:((((as.zip ps).take (as.map V.ref).length).filter fun z=>z.2.isToken).map fun z=>V.ref z.1).length=(Vafmta.tokenPieces ps).length:=by
      rw [List.length_map,List.length_map,List.take_of_length_le (by rw [List.length_zip]; exact Nat.min_le_left _ _)]
      unfold Vafmta.tokenPieces
      have:ps=(as.zip ps).map (·.2):=by rw [List.map_snd_zip (by rw [ha.1]; exact Nat.le_refl _)]
      conv=>rhs; rw [this]
      rw [List.filter_map,List.length_map]
      rfl
    rw [el]
    refine ⟨_,rfl,fsto (sD2 _ _ hp4) g.Stretch.cl (g.Stretch.na _ (by decide +kernel)) (by simp) pi_Stretch_tokens ?_⟩
    exact q _ ((b4.trans (.of sD2)).trans .upd) upd_same
theorem mk_Stretch (g:Pg K mg) {N:Addr->Prop}{l:Addr}{as:List Addr}{s:Vafmta.Stretch}{c:Bool}{H:Hp}{R:Addr->Hp->Prop}{E:XK} (hl:H l=some (.lst (as.map V.ref))) (ha:Ats (PieceAt g H) as s) (hn:s.length ≤ 1000000) (hN:N l)
    (h:∀ x H',H x=none->Same H H'->StretchAt g N H' x s c->R x H'):∀ x dx,H x=none->H dx=none->dx ≠ x →
    sp_Stretch_init g (.ref x :: ([.ref l,.bl c] ++ [])) (upd (upd H dx (.own x)) x (.ins g.Stretch.C dx [])) (fun v H2=>v = .non∧R x H2) E:=fun x dx nx nd ne=>by
  have s1:Same H (upd (upd H dx (.own x)) x (.ins g.Stretch.C dx [])):=same_new2 nx nd
  refine ⟨x,dx,l,c,as,s,rfl,upd_same,s1 _ _ hl,ha.imp (fun a p z=>z.same s1),hn,fun H' b e=>⟨rfl,?_⟩⟩
  have s2:Same H H':=b.same s1 nx
  exact h x H' nx s2 ⟨dx,l,as,hN,e,s2 _ _ hl,ha.imp fun a p z=>z.same s2⟩
end
end Cb
end
section
set_option maxRecDepth 100000
set_option maxHeartbeats 4000000
namespace Cb
open PySem PySem.Spec PyProof.Rows L2
open Cm (bi)
theorem But.new {d l:Addr}{H H':Hp}{o:HO} (b:But d H H') (n:H l=none):But d H (L2.upd H' l o):=fun c u e hc=>by
  rw [upd_ne (ne_of_none e n)]
  exact b c u e hc
section
variable {P:Program}{w:World}{K:PySem.W.Frag}{mg:Str->Option Value}{base:Heap}
def sp_comment_behind (g:Pg K mg):Sp:=fun vs H Q _=>∃ (c a d:Addr) (t:Vafmta.Bytes) (n:Nat),vs=[.ref c,.int n]∧CutterAt g H c a d t∧n ≤ t.length ∧
  ∀ l as H',But d H H'->H l=none->H' l=some (.lst (as.map V.ref))->Ats (PieceAt g H') as (Vafmta.commentBehind (t.drop n))->CutterAt g H' c a d t->Q (.ref l) H'
theorem ok_comment_behind (g:Pg K mg):FnOk P w K mg base CX0 6 g.f_comment_behind.a g.f_comment_behind.fd ["cutter","place"] (sp_comment_behind g):=by
  refine g.f_comment_behind.F.ok sc_comment_behind (fun vs H Q E h=>?_) (fun cdv A outer s H vs Q E hr h=>?_)
  · obtain ⟨c,a,d,t,n,rfl,_⟩:=h; rfl
  · obtain ⟨c,a,d,t,n,rfl,C,hn,q⟩:=h
    refine ⟨_,(pss_cons (ps_set (i:=2) sc_comment_behind.nd rfl (Or.inl rfl) (pe_lst pa_nil))
      (pss_cons (ps_while PassesOwn.never (pt_cmpR op_lt (pv 1) (pe_callB call_len_seq (by rfl) g.n_len PySem.boot_len (pa_cons (pe_fld (pv 0) rfl) pa_nil)) (nomark _)) (pss_cons (ps_set (i:=3) sc_comment_behind.nd rfl (Or.inl rfl) (pe_meth (pv 0) g.Cutter.cl g.m_Cutter_piece_at.m (ok_Cutter_piece_at g) (hr.mono (by decide)) g.m_Cutter_piece_at.b .nil pass0 (pa_cons (pv 1) pa_nil)))
        (pss_cons (ps_expr (pe_bm PySem.F.plainAttrs_list PySem.F.slot_list_append PySem.F.type_list_append mt_append (pv 2) (pa_cons (pv 3) pa_nil)))
        (pss_cons (ps_if (pt_cmpR op_eq (pe_fld (pv 3) rfl) (pe_gint rfl g.g_COMMENT) (nomark _)) (pss_one (ps_ret (pv 2))) pss_nil)
        (pss_cons (ps_if (pt_cmpR op_ne (pe_fld (pv 3) rfl) (pe_gint rfl g.g_BLANK) (nomark _)) (pss_one (ps_ret (pe_lst pa_nil))) pss_nil)
        (pss_one (ps_aug (i:=1) sc_comment_behind.nd rfl (Or.inl rfl) (pe_fld (pv 3) rfl) ip_add)))))))
      (pss_one (ps_ret (pe_lst pa_nil))))),?_⟩
    refine ⟨by decide,fun l hl=>?_⟩
    obtain ⟨kv0,hd0,hz0⟩:=C.dic
    have hld:l ≠ d:=Ne.symm (ne_of_none hd0 hl)
    refine ⟨fun m σ H'=>∃ (k:Nat) (as:List Addr) (v:Option V),σ=[some (.ref c),some (.int ((n + k:Nat):Int)),some (.ref l),v]∧But d H H'∧(∃ kvs,H' d=some (.dK kvs)∧Dead t kvs)∧H' l=some (.lst (as.map V.ref)) ∧
      Ats (PieceAt g H') as (List.replicate k ⟨.blank,[Vafmta.BLANK]⟩)∧t.drop n=List.replicate k Vafmta.BLANK ++ t.drop (n + k)∧n + k ≤ t.length∧m=t.length - (n + k),
      ⟨_,0,[],none,rfl,(But.refl d H).new hl,⟨kv0,by rw [upd_ne (Ne.symm hld)]; exact hd0,hz0⟩,upd_same,.nil,rfl,hn,rfl⟩,?_⟩
    rintro m σ H1 ⟨k,as,v,rfl,b1,⟨kv1,hd1,hz1⟩,hl1,ha1,et,hk,rfl⟩
    have C1:=C.put b1 hd1 hz1
    obtain ⟨dx,ho1⟩:=C1.obj
    refine ⟨_,rfl,_,rfl,rf_Cutter_text g ho1 ⟨_,_,rfl,.inl (SqL.of C1.txt),_,_,rfl,rfl,_,rfl,ite2 (fun h=>?_) (fun h=>?_)⟩⟩
    · have hlt:=of_decide_eq_true h
      rw [bV_len] at hlt
      obtain ⟨ch,hc,ed⟩:=Cm.drop_lt (t:=t) (n:=n + k) (by omega)
      refine ⟨_,fun _ _ z=>z,?_⟩
      refine ⟨_,rfl,rm_Cutter_piece_at g ho1 ⟨_,rfl,c,a,d,t,n + k,ch,rfl,C1,hc,fun x H2 b2 nx p2 C2=>?_⟩⟩
      have hl2:=b2 _ _ hl1 hld
      have ha2:Ats (PieceAt g H2) as (List.replicate k ⟨.blank,[Vafmta.BLANK]⟩):=ha1.imp fun y p z=>z.but b2 hd1
      have b12:But d H H2:=b1.trans b2
      have hlen:as.length=k:=by rw [ha1.1,List.length_replicate]
      refine ⟨_,rfl,.inl ⟨rfl,_,SqL.of hl2⟩,_,rfl,l,_,_,rfl,rfl,hl2,lim1 (k:=100000) (by rw [List.length_map,hlen]; have:=C.len; omega),?_⟩
      generalize e3:upd H2 l (.lst (as.map V.ref ++ [.ref x]))=H3
      have hl3:H3 l=some (.lst ((as ++ [x]).map V.ref)):=by rw [← e3,upd_same,List.map_append]; rfl
      have b3:But d H H3:=by rw [← e3]; exact b12.new hl
      have p3:PieceAt g H3 x (MC.head ch (t.drop (n + k + 1))):=by rw [← e3]; exact p2.lst hl2
      have ha3:Ats (PieceAt g H3) as (List.replicate k ⟨.blank,[Vafmta.BLANK]⟩):=ha2.imp fun y p z=>by rw [← e3]; exact z.lst hl2
      obtain ⟨kv2,hd2,hz2⟩:=C2.dic
      have hd3:H3 d=some (.dK kv2):=by rw [← e3,upd_ne (Ne.symm hld)]; exact hd2
      have C3:=C.put b3 hd3 hz2
      obtain ⟨dp,hp⟩:=id p3
      have eb:t.drop n=List.replicate k Vafmta.BLANK ++ ch :: t.drop (n + k + 1):=by rw [et,ed]
      refine ⟨_,rfl,rf_Piece_kind g hp ⟨rfl,_,rfl,ite2 (fun h1=>?_) (fun h1=>?_)⟩⟩
      · have hk1:(MC.head ch (t.drop (n + k + 1))).kind = .comment:=Cm.kindNo_inj (int_eq h1)
        have hh:=Cm.kind_comment_iff.mp hk1
        refine ⟨_,rfl,q l (as ++ [x]) H3 b3 hl hl3 ?_ C3⟩
        rw [eb,Cm.behind_is k ch _ (by rw [hh]; decide),if_pos hh]
        exact ha3.snoc p3
      · have hk1:ch ≠ Vafmta.HASH:=fun e=>h1 (by rw [Cm.kind_comment_iff.mpr e]; rfl)
        refine ⟨_,rfl,rf_Piece_kind g hp ⟨rfl,_,rfl,ite2 (fun h2=>?_) (fun h2=>?_)⟩⟩
        · have hk2:ch ≠ Vafmta.BLANK:=fun e=>by
            rw [Cm.kind_blank_iff.mpr e] at h2
            exact absurd h2 (by decide)
          refine ⟨by decide,fun p hp'=>?_⟩
          have hlp:p ≠ l:=fun e=>by rw [e,hl3] at hp'; cases hp'
          have hpH:H p=none:=b3.free C.has hp' C3.has
          refine q p [] _ (b3.new hpH) hpH upd_same ?_ (C3.same (same_new hp'))
          rw [eb,Cm.behind_is k ch _ hk2,if_neg hk1]
          exact .nil
        · have hk2:ch=Vafmta.BLANK:=by
            apply Cm.kind_blank_iff.mp
            apply Cm.kindNo_inj
            have:=h2
            simp only [Bool.not_eq_true',decide_eq_false_iff_not,Decidable.not_not] at this
            exact V.int.inj this
          refine ⟨_,rfl,_,rfl,rf_Piece_size g hp ⟨_,_,rfl,rfl,?_⟩⟩
          have e1:(MC.head ch (t.drop (n + k + 1))).text.length=1:=by rw [hk2,Cm.head_blank]; rfl
          rw [e1]
          refine ⟨t.length - (n + (k + 1)),by omega,k + 1,as ++ [x],_,rfl,b3,⟨kv2,hd3,hz2⟩,hl3,?_,?_,by omega,rfl⟩
          · rw [List.replicate_succ']
            refine ha3.snoc ?_
            rw [hk2,Cm.head_blank] at p3
            exact p3
          · rw [eb,hk2,List.replicate_succ',List.append_assoc]
            rfl
    · have hlt:¬ ((n + k:Nat):Int) < (bV t).length:=fun z=>h (decide_eq_true z)
      rw [bV_len] at hlt
      refine ⟨by decide,fun p hp'=>?_⟩
      have hpH:H p=none:=b1.free C.has hp' C1.has
      refine q p [] _ (b1.new hpH) hpH upd_same ?_ (C1.same (same_new hp'))
      rw [et,List.drop_eq_nil_of_le (by omega),List.append_nil,Cm.behind_end]
      exact .nil
def sp_cut_stretch (g:Pg K mg):Sp:=fun vs H Q _=>∃ (N:Addr->Prop) (c a d:Addr) (t:Vafmta.Bytes) (n:Nat),vs=[.ref c,.int n]∧(∀ b,H b=none->N b)∧CutterAt g H c a d t∧n ≤ t.length ∧
  ∀ x H',But d H H'->H x=none->StretchAt g N H' x (Cm.oneS (t.drop n)).1 (Cm.oneS (t.drop n)).2.2->CutterAt g H' c a d t->Q (.ref x) H'
theorem ok_cut_stretch (g:Pg K mg):FnOk P w K mg base CX0 7 g.f_cut_stretch.a g.f_cut_stretch.fd ["cutter","place"] (sp_cut_stretch g):=by
  refine g.f_cut_stretch.F.ok sc_cut_stretch (fun vs H Q E h=>?_) (fun cdv A outer s H vs Q E hr h=>?_)
  · obtain ⟨N,c,a,d,t,n,rfl,_⟩:=h; rfl
  · obtain ⟨N,c,a,d,t,n,rfl,hN,C,hn,q⟩:=h
    refine ⟨_,(pss_cons (ps_set (i:=2) sc_cut_stretch.nd rfl (Or.inl rfl) (pe_lst pa_nil))
      (pss_cons (ps_while PassesOwn.never (pt_cmpR op_lt (pv 1) (pe_callB call_len_seq (by rfl) g.n_len PySem.boot_len (pa_cons (pe_fld (pv 0) rfl) pa_nil)) (nomark _)) (pss_cons (ps_set (i:=3) sc_cut_stretch.nd rfl (Or.inl rfl) (pe_meth (pv 0) g.Cutter.cl g.m_Cutter_piece_at.m (ok_Cutter_piece_at g) (hr.mono (by decide)) g.m_Cutter_piece_at.b .nil pass0 (pa_cons (pv 1) pa_nil)))
        (pss_cons (ps_expr (pe_bm PySem.F.plainAttrs_list PySem.F.slot_list_append PySem.F.type_list_append mt_append (pv 2) (pa_cons (pv 3) pa_nil)))
        (pss_cons (ps_if (PW.pt (pw_and (pt_cmpR op_eq (pe_fld (pv 3) rfl) (pe_gint rfl g.g_SIGN) (nomark _)) (pw_and1 (pt_cmpR op_eq (pe_ix ix_list (pe_fld (pv 0) rfl) (pv 1) (fun _ _=>rfl)) (pe_gint rfl g.g_SEMICOLON_BYTE) (nomark _))))) (pss_one (ps_ret (pe_make g.Stretch.mk1 (ok_Stretch_init g) (hr.mono (by decide)) rfl g.Stretch.mg g.Stretch.b .nil pass0 (pa_cons (pe_op op_cat (pv 2) (pe_call (ok_comment_behind g) (hr.mono (by decide)) rfl g.f_comment_behind.m g.f_comment_behind.F.kp g.f_comment_behind.b .nil pass0 (pa_cons (pv 0) (pa_cons (pe_op op_add (pv 1) pe_int) pa_nil)))) (pa_cons pe_bl pa_nil))))) pss_nil)
        (pss_one (ps_aug (i:=1) sc_cut_stretch.nd rfl (Or.inl rfl) (pe_fld (pv 3) rfl) ip_add))))))
      (pss_one (ps_ret (pe_make g.Stretch.mk1 (ok_Stretch_init g) (hr.mono (by decide)) rfl g.Stretch.mg g.Stretch.b .nil pass0 (pa_cons (pv 2) (pa_cons pe_bl pa_nil))))))),?_⟩
    refine ⟨by decide,fun l hl=>?_⟩
    obtain ⟨kv0,hd0,hz0⟩:=C.dic
    have hld:l ≠ d:=Ne.symm (ne_of_none hd0 hl)
    refine ⟨fun m σ H'=>∃ (n':Nat) (as:List Addr) (ps:List Vafmta.Piece) (v:Option V),σ=[some (.ref c),some (.int (n':Int)),some (.ref l),v]∧But d H H'∧(∃ kvs,H' d=some (.dK kvs)∧Dead t kvs)∧H' l=some (.lst (as.map V.ref)) ∧
      Ats (PieceAt g H') as ps∧(Cm.oneS (t.drop n)).1=ps ++ (Cm.oneS (t.drop n')).1∧(Cm.oneS (t.drop n)).2=(Cm.oneS (t.drop n')).2∧n' ≤ t.length∧ps.length ≤ n'∧m=t.length - n',
      ⟨_,n,[],[],none,rfl,(But.refl d H).new hl,⟨kv0,by rw [upd_ne (Ne.symm hld)]; exact hd0,hz0⟩,upd_same,.nil,rfl,rfl,hn,Nat.zero_le _,rfl⟩,?_⟩
    rintro m σ H1 ⟨n',as,ps,v,rfl,b1,⟨kv1,hd1,hz1⟩,hl1,ha1,eo1,eo2,hn',hps,rfl⟩
    have C1:=C.put b1 hd1 hz1
    obtain ⟨dx,ho1⟩:=C1.obj
    refine ⟨_,rfl,_,rfl,rf_Cutter_text g ho1 ⟨_,_,rfl,.inl (SqL.of C1.txt),_,_,rfl,rfl,_,rfl,ite2 (fun h=>?_) (fun h=>?_)⟩⟩
    · have hlt:=of_decide_eq_true h
      rw [bV_len] at hlt
      obtain ⟨ch,hc,ed⟩:=Cm.drop_lt (t:=t) (n:=n') (by omega)
      refine ⟨_,fun _ _ z=>z,?_⟩
      refine ⟨_,rfl,rm_Cutter_piece_at g ho1 ⟨_,rfl,c,a,d,t,n',ch,rfl,C1,hc,fun x H2 b2 nx p2 C2=>?_⟩⟩
      have hl2:=b2 _ _ hl1 hld
      have ha2:Ats (PieceAt g H2) as ps:=ha1.imp fun y p z=>z.but b2 hd1
      have b12:But d H H2:=b1.trans b2
      refine ⟨_,rfl,.inl ⟨rfl,_,SqL.of hl2⟩,_,rfl,l,_,_,rfl,rfl,hl2,lim1 (k:=100000) (by rw [List.length_map,ha1.1]; have:=C.len; omega),?_⟩
      generalize e3:upd H2 l (.lst (as.map V.ref ++ [.ref x]))=H3
      have hl3:H3 l=some (.lst ((as ++ [x]).map V.ref)):=by rw [← e3,upd_same,List.map_append]; rfl
      have b3:But d H H3:=by rw [← e3]; exact b12.new hl
      have p3:PieceAt g H3 x (MC.head ch (t.drop (n' + 1))):=by rw [← e3]; exact p2.lst hl2
      have ha3:Ats (PieceAt g H3) (as ++ [x]) (ps ++ [MC.head ch (t.drop (n' + 1))]):=(ha2.imp fun y p z=>by rw [← e3]; exact z.lst hl2).snoc p3
      obtain ⟨kv2,hd2,hz2⟩:=C2.dic
      have hd3:H3 d=some (.dK kv2):=by rw [← e3,upd_ne (Ne.symm hld)]; exact hd2
      have C3:=C.put b3 hd3 hz2
      obtain ⟨dp,hp⟩:=id p3
      obtain ⟨dc,ho3⟩:=C3.obj
      have hle:=Cm.head_le hc
      have er:=Cm.rest_is hc
      have ec:=Cm.oneS_cons ch (t.drop (n' + 1))
      rw [← ed] at ec
      have no:¬ Vafmta.isSemi (MC.head ch (t.drop (n' + 1)))=true->tAug 1 (tFld K (tVar 3) "size") (ipI fun i j=>i + j)
          { nx:=fun σ' H'=>∃ m',m' < t.length - n'∧∃ (n'':Nat) (as:List Addr) (ps:List Vafmta.Piece) (v:Option V),σ'=[some (.ref c),some (.int (n'':Int)),some (.ref l),v]∧But d H H'∧(∃ kvs,H' d=some (.dK kvs)∧Dead t kvs)∧H' l=some (.lst (as.map V.ref)) ∧
              Ats (PieceAt g H') as ps∧(Cm.oneS (t.drop n)).1=ps ++ (Cm.oneS (t.drop n'')).1∧(Cm.oneS (t.drop n)).2=(Cm.oneS (t.drop n'')).2∧n'' ≤ t.length∧ps.length ≤ n''∧m'=t.length - n'',rt:=Q,
            ct:=fun σ' H'=>∃ m',m' < t.length - n'∧∃ (n'':Nat) (as:List Addr) (ps:List Vafmta.Piece) (v:Option V),σ'=[some (.ref c),some (.int (n'':Int)),some (.ref l),v]∧But d H H'∧(∃ kvs,H' d=some (.dK kvs)∧Dead t kvs)∧H' l=some (.lst (as.map V.ref)) ∧
              Ats (PieceAt g H') as ps∧(Cm.oneS (t.drop n)).1=ps ++ (Cm.oneS (t.drop n'')).1∧(Cm.oneS (t.drop n)).2=(Cm.oneS (t.drop n'')).2∧n'' ≤ t.length∧ps.length ≤ n''∧m'=t.length - n'',
            bk:=tRet (tMake g.Stretch.C (sp_Stretch_init g) [] E0 (tCons (tVar 2) (tCons (tC (.bl false)) tNil))) { nx:=fun _ H'=>Q .non H',rt:=Q } } [some (.ref c),some (.int (n':Int)),some (.ref l),some (.ref x)] H3:=by
        intro hs
        refine ⟨_,rfl,_,rfl,rf_Piece_size g hp ⟨_,_,rfl,rfl,?_⟩⟩
        rw [if_neg hs] at ec
        refine ⟨t.length - (n' + (MC.head ch (t.drop (n' + 1))).text.length),by omega,n' + (MC.head ch (t.drop (n' + 1))).text.length,as ++ [x],_,_,rfl,b3,⟨kv2,hd3,hz2⟩,hl3,ha3,?_,?_,by omega,by rw [List.length_append]; simp; omega,rfl⟩
        · rw [eo1,ec,er,List.append_assoc]
          rfl
        · rw [eo2,ec,er]
      refine ⟨_,rfl,rf_Piece_kind g hp ⟨rfl,_,rfl,ite2 (fun h1=>?_) (fun h1=>?_)⟩⟩
      · have hk1:(MC.head ch (t.drop (n' + 1))).kind = .sign:=Cm.kindNo_inj (int_eq h1)
        refine ⟨_,rfl,rf_Cutter_text g ho3 ⟨_,rfl,_,_,_,_,rfl,rfl,SqL.of C3.txt,bV_at hc,rfl,_,rfl,ite2 (fun h2=>?_) (fun h2=>?_)⟩⟩
        · have hb:ch=Vafmta.SEMI:=byte_is (k:=59) (by decide) (int_eq h2)
          have hs:Vafmta.isSemi (MC.head ch (t.drop (n' + 1)))=true:=by rw [Cm.semi_is,hk1,hb]; rfl
          rw [if_pos hs] at ec
          have e1:(MC.head ch (t.drop (n' + 1))).text.length=1:=by
            have:(MC.head ch (t.drop (n' + 1))).text=[Vafmta.SEMI]:=by
              unfold Vafmta.isSemi at hs
              exact eq_of_beq (Bool.and_eq_true_iff.mp hs).2
            rw [this]
            rfl
          rw [e1] at er
          refine ⟨_,rfl,_,rfl,_,rfl,_,_,rfl,rfl,c,a,d,t,n' + 1,rfl,C3,by omega,fun l2 as2 H4 b4 nl2 hl4 ha4 C4=>?_⟩
          have hl4':=b4 _ _ hl3 hld
          have ha4':Ats (PieceAt g H4) (as ++ [x]) (ps ++ [MC.head ch (t.drop (n' + 1))]):=ha3.imp fun y p z=>z.but b4 hd3
          have hcb:(Vafmta.commentBehind (t.drop (n' + 1))).length ≤ t.length:=by
            have z1:=congrArg List.length (MC.commentBehind_bytes (t.drop (n' + 1)))
            rw [List.length_append,List.length_drop] at z1
            have z2:∀ l:List Vafmta.Piece,(∀ p ∈ l,MC.Gen p)->l.length ≤ (Vafmta.bytesOf l).length:=by
              intro l
              induction l with
              | nil=>intro _; simp
              | cons p r ih =>
                intro hg
                obtain ⟨cc,ss,hh⟩:=MC.gen_start (hg p List.mem_cons_self)
                rw [MC.bytesOf_cons,hh,List.length_cons,List.length_append,List.length_cons]
                have:=ih fun y hy=>hg y (List.mem_cons_of_mem _ hy)
                omega
            have z3:=z2 _ (MC.commentBehind_gen (t.drop (n' + 1)))
            omega
          refine ⟨_,_,_,_,rfl,rfl,hl4',hl4,lim (k:=300000) (by rw [List.length_map,List.length_map,ha4'.1,ha4.1,List.length_append]; have:=C.len; simp; omega),fun p hp=>?_⟩
          have hp4:H p=none:=(b3.trans b4).free C.has hp C4.has
          have ha5:Ats (PieceAt g (upd H4 p (.lst (((as ++ [x]).map V.ref) ++ as2.map V.ref)))) ((as ++ [x]) ++ as2) ((ps ++ [MC.head ch (t.drop (n' + 1))]) ++ Vafmta.commentBehind (t.drop (n' + 1))):=(ha4'.append ha4).imp fun y pp z=>z.same (same_new hp)
          refine mk_Stretch g (N:=N) (by rw [upd_same,← List.map_append]) ha5 (by rw [List.length_append,List.length_append]; have:=C.len; simp; omega) (hN p hp4) fun y H6 ny s6 S6=>?_
          refine q y H6 ?_ ((b3.trans b4).free C.has ((same_new hp).free ny) C4.has) ?_ ((C4.same (same_new hp)).same s6)
          · exact ((b3.trans b4).new hp4).trans (.of s6)
          · rw [eo1,eo2,ec,er]
            rw [List.append_assoc] at S6
            exact S6
        · refine no fun hs=>?_
          rw [Cm.semi_is] at hs
          have:=of_decide_eq_true (Bool.and_eq_true_iff.mp hs).2
          exact h2 (by rw [this]; rfl)
      · refine iteF (no fun hs=>?_)
        rw [Cm.semi_is] at hs
        have:=of_decide_eq_true (Bool.and_eq_true_iff.mp hs).1
        exact h1 (by rw [this]; rfl)
    · have hlt:¬ (n':Int) < (bV t).length:=fun z=>h (decide_eq_true z)
      rw [bV_len] at hlt
      rw [List.drop_eq_nil_of_le (show t.length ≤ n' by omega),Cm.oneS_nil,List.append_nil] at eo1
      rw [List.drop_eq_nil_of_le (show t.length ≤ n' by omega),Cm.oneS_nil] at eo2
      refine ⟨_,rfl,?_⟩
      refine mk_Stretch g (N:=N) hl1 ha1 (by have:=C.len; omega) (hN l hl) fun y H6 ny s6 S6=>?_
      refine q y H6 (b1.trans (.of s6)) (b1.free C.has ny C1.has) ?_ (C1.same s6)
      rw [eo1,eo2]
      exact S6
end
end Cb
end
section
set_option maxRecDepth 100000
set_option maxHeartbeats 4000000
namespace Cb
open PySem PySem.Spec PyProof.Rows L2
open Cm (bi)
section
variable {P:Program}{w:World}{K:PySem.W.Frag}{mg:Str->Option Value}{base:Heap}
def StrsAt (g:Pg K mg) (N:Addr->Prop) (H:Hp) (cl:Nat->Bool) (as:List Addr) (ss:List Vafmta.Stretch):Prop :=
  as.length=ss.length∧∀ (i:Nat) (a:Addr) (s:Vafmta.Stretch),as[i]?=some a->ss[i]?=some s->StretchAt g N H a s (cl i)
theorem StrsAt.same {g:Pg K mg}{N:Addr->Prop}{H H':Hp}{cl:Nat->Bool}{as:List Addr}{ss:List Vafmta.Stretch} (h:StrsAt g N H cl as ss) (e:Same H H'):StrsAt g N H' cl as ss:=⟨h.1,fun i a s h1 h2=>(h.2 i a s h1 h2).same e⟩
theorem StrsAt.mono {g:Pg K mg}{N N':Addr->Prop}{H:Hp}{cl:Nat->Bool}{as:List Addr}{ss:List Vafmta.Stretch} (h:StrsAt g N H cl as ss) (e:∀ a,N a->N' a):StrsAt g N' H cl as ss:=⟨h.1,fun i a s h1 h2=>(h.2 i a s h1 h2).mono e⟩
theorem StrsAt.get {g:Pg K mg}{N:Addr->Prop}{H:Hp}{cl:Nat->Bool}{as:List Addr}{ss:List Vafmta.Stretch} (h:StrsAt g N H cl as ss) {i:Nat}{a:Addr} (e:as[i]?=some a):∃ s,ss[i]?=some s∧StretchAt g N H a s (cl i):=by
  have hl:=(List.getElem?_eq_some_iff.mp e).1
  have hx:i < ss.length:=by rw [← h.1]; exact hl
  exact ⟨_,List.getElem?_eq_getElem hx,h.2 i a _ e (List.getElem?_eq_getElem hx)⟩
theorem StrsAt.append {g:Pg K mg}{N:Addr->Prop}{H:Hp}{c1 c2 cl:Nat->Bool}{as bs:List Addr}{ss zs:List Vafmta.Stretch} (h:StrsAt g N H c1 as ss) (h':StrsAt g N H c2 bs zs) (e1:∀ i,i < ss.length->cl i=c1 i) (e2:∀ i,i < zs.length->cl (ss.length + i)=c2 i):StrsAt g N H cl (as ++ bs) (ss ++ zs):=by
  refine ⟨by rw [List.length_append,List.length_append,h.1,h'.1],fun i a s q1 q2=>?_⟩
  rcases Nat.lt_or_ge i as.length with q | q
  · rw [List.getElem?_append_left q] at q1
    rw [List.getElem?_append_left (by rw [← h.1]; exact q)] at q2
    rw [e1 i (by rw [← h.1]; exact q)]
    exact h.2 i a s q1 q2
  · rw [List.getElem?_append_right q] at q1
    rw [List.getElem?_append_right (by rw [← h.1]; exact q),← h.1] at q2
    have hlt:=(List.getElem?_eq_some_iff.mp q2).1
    have:=e2 (i - as.length) hlt
    rw [← h.1,show as.length + (i - as.length)=i by omega] at this
    rw [this]
    exact h'.2 _ a s q1 q2
theorem StrsAt.take {g:Pg K mg}{N:Addr->Prop}{H:Hp}{cl:Nat->Bool}{as:List Addr}{ss:List Vafmta.Stretch} (h:StrsAt g N H cl as ss) (n:Nat):StrsAt g N H cl (as.take n) (ss.take n):=by
  refine ⟨by rw [List.length_take,List.length_take,h.1],fun i a x e1 e2=>?_⟩
  rw [List.getElem?_take] at e1 e2
  split at e1
  · rename_i q
    rw [if_pos q] at e2
    exact h.2 i a x e1 e2
  · cases e1
theorem StrsAt.drop {g:Pg K mg}{N:Addr->Prop}{H:Hp}{cl c2:Nat->Bool}{as:List Addr}{ss:List Vafmta.Stretch} (h:StrsAt g N H cl as ss) (n:Nat) (e:∀ i,c2 i=cl (n + i)):StrsAt g N H c2 (as.drop n) (ss.drop n):=by
  refine ⟨by rw [List.length_drop,List.length_drop,h.1],fun i a x e1 e2=>?_⟩
  rw [List.getElem?_drop] at e1 e2
  rw [e i]
  exact h.2 _ a x e1 e2
theorem StrsAt.lst {g:Pg K mg}{N:Addr->Prop}{H:Hp}{cl:Nat->Bool}{as:List Addr}{ss:List Vafmta.Stretch}{l:Addr}{ys:List V}{o:HO} (h:StrsAt g N H cl as ss) (hl:H l=some (.lst ys)) (n:¬ N l):StrsAt g N (upd H l o) cl as ss:=⟨h.1,fun i a s h1 h2=>(h.2 i a s h1 h2).lst hl n⟩
def Strs (g:Pg K mg) (H:Hp) (l:Addr) (ss:List Vafmta.Stretch):Prop:=∃ (N:Addr->Prop) (cl:Nat->Bool) (as:List Addr),H l=some (.lst (as.map V.ref))∧StrsAt g N H cl as ss
def sp_total_size (g:Pg K mg):Sp:=fun vs H Q _=>∃ (l:Addr) (ss:List Vafmta.Stretch),vs=[.ref l]∧Strs g H l ss∧ss.length ≤ 100000∧∀ H',Same H H'->Q (.int (MC.total ss:Int)) H'
theorem ok_total_size (g:Pg K mg):FnOk P w K mg base CX0 1 g.f_total_size.a g.f_total_size.fd ["stretches"] (sp_total_size g):=by
  refine g.f_total_size.F.ok sc_total_size (fun vs H Q E h=>?_) (fun cdv A outer s H vs Q E hr h=>?_)
  · obtain ⟨l,ss,rfl,_⟩:=h; rfl
  · obtain ⟨l,ss,rfl,⟨N,cl,as,hl,ha⟩,hn,q⟩:=h
    refine ⟨_,(pss_one (ps_ret (pe_callB (cr_sum rfl) (by rfl) g.n_sum PyProof.Rows.boot_sum (pa_cons (pe_lc rfl sc_total_size.nd (pi_list (pv 0)) (own:=[("stretch",1)]) (blk_by (N:=["stretches","stretch"]) (sc:=defScope s_total_size) rfl rfl (by decide +kernel)) (fun _ _ _ _ _=>pg_name (i:=1) sc_total_size.nd rfl (Or.inl rfl) (Or.inr rfl)) (fun _ _ _ _ _=>pts_nil) (fun _ _ _ _ _=>(pe_fldk (K:=K) rfl (pv 1) rfl))) pa_nil)))),?_⟩
    refine ⟨_,rfl,l,rfl,⟨_,SqL.of hl⟩,fun D hD=>lc_ix (xs:=as.map V.ref) (fun i=>(ss.take i).map fun x=>V.int (Vafmta.sizeOf_ x:Int)) rfl (fun i hi=>?_) hD (SqL.of hl) (fun i v H3 hi s3 C N0 h1 h0=>?_) ?_⟩
    · rw [List.length_map] at hi ⊢
      exact lim1 (k:=100000) (by rw [List.length_take]; omega)
    · obtain ⟨a,ea,rfl⟩:=ref_get hi
      obtain ⟨x,ex,dz,lz,az,hz0,hz,_⟩:=ha.get ea
      refine ⟨rfl,_,rfl,rf_Stretch_size g (s3 _ _ hz) (h1 _ ?_)⟩
      show (ss.take (i + 1)).map _=(ss.take i).map _ ++ _
      rw [take_snoc ex,List.map_append]
      rfl
    · refine ⟨D,ss.map fun x=>(Vafmta.sizeOf_ x:Int),rfl,SqL.of ?_,?_⟩
      · rw [upd_same,List.length_map,ha.1,List.take_length,List.map_map]
        rfl
      · rw [Cm.total_sum]
        exact q _ (same_new hD)
def sp_token_count (g:Pg K mg):Sp:=fun vs H Q _=>∃ (l:Addr) (ss:List Vafmta.Stretch),vs=[.ref l]∧Strs g H l ss∧ss.length ≤ 100000∧∀ H',Same H H'->Q (.int (Vafmta.tokensIn ss:Int)) H'
theorem ok_token_count (g:Pg K mg):FnOk P w K mg base CX0 1 g.f_token_count.a g.f_token_count.fd ["stretches"] (sp_token_count g):=by
  refine g.f_token_count.F.ok sc_token_count (fun vs H Q E h=>?_) (fun cdv A outer s H vs Q E hr h=>?_)
  · obtain ⟨l,ss,rfl,_⟩:=h; rfl
  · obtain ⟨l,ss,rfl,⟨N,cl,as,hl,ha⟩,hn,q⟩:=h
    refine ⟨_,(pss_one (ps_ret (pe_callB (cr_sum rfl) (by rfl) g.n_sum PyProof.Rows.boot_sum (pa_cons (pe_lc rfl sc_token_count.nd (pi_list (pv 0)) (own:=[("stretch",1)]) (blk_by (N:=["stretches","stretch"]) (sc:=defScope s_token_count) rfl rfl (by decide +kernel)) (fun _ _ _ _ _=>pg_name (i:=1) sc_token_count.nd rfl (Or.inl rfl) (Or.inr rfl)) (fun _ _ _ _ _=>pts_nil) (fun _ _ _ _ _=>(pe_fldk (K:=K) rfl (pv 1) rfl))) pa_nil)))),?_⟩
    refine ⟨_,rfl,l,rfl,⟨_,SqL.of hl⟩,fun D hD=>lc_ix (xs:=as.map V.ref) (fun i=>(ss.take i).map fun x=>V.int ((Vafmta.tokenPieces x).length:Int)) rfl (fun i hi=>?_) hD (SqL.of hl) (fun i v H3 hi s3 C N0 h1 h0=>?_) ?_⟩
    · rw [List.length_map] at hi ⊢
      exact lim1 (k:=100000) (by rw [List.length_take]; omega)
    · obtain ⟨a,ea,rfl⟩:=ref_get hi
      obtain ⟨x,ex,dz,lz,az,hz0,hz,_⟩:=ha.get ea
      refine ⟨rfl,_,rfl,rf_Stretch_tokens g (s3 _ _ hz) (h1 _ ?_)⟩
      show (ss.take (i + 1)).map _=(ss.take i).map _ ++ _
      rw [take_snoc ex,List.map_append]
      rfl
    · refine ⟨D,ss.map fun x=>((Vafmta.tokenPieces x).length:Int),rfl,SqL.of ?_,?_⟩
      · rw [upd_same,List.length_map,ha.1,List.take_length,List.map_map]
        rfl
      · rw [Cm.tokens_sum]
        exact q _ (same_new hD)
def endsV (ss:List Vafmta.Stretch) (k:Nat):List V:=(List.range k).map fun i=>V.int (MC.sz ss (i + 1):Int)
theorem endsV_succ (ss:List Vafmta.Stretch) (k:Nat):endsV ss (k + 1)=endsV ss k ++ [V.int (MC.sz ss (k + 1):Int)]:=by
  unfold endsV
  rw [List.range_succ,List.map_append]
  rfl
theorem endsV_len (ss:List Vafmta.Stretch) (k:Nat):(endsV ss k).length=k:=by unfold endsV; rw [List.length_map,List.length_range]
def sp_ends_of (g:Pg K mg):Sp:=fun vs H Q _=>∃ (l:Addr) (ss:List Vafmta.Stretch),vs=[.ref l]∧Strs g H l ss∧ss.length ≤ 100000∧∀ p H',Same H H'->H p=none->H' p=some (.lst (endsV ss ss.length))->Q (.ref p) H'
theorem ok_ends_of (g:Pg K mg):FnOk P w K mg base CX0 1 g.f_ends_of.a g.f_ends_of.fd ["stretches"] (sp_ends_of g):=by
  refine g.f_ends_of.F.ok sc_ends_of (fun vs H Q E h=>?_) (fun cdv A outer s H vs Q E hr h=>?_)
  · obtain ⟨l,ss,rfl,_⟩:=h; rfl
  · obtain ⟨l,ss,rfl,⟨N,cl,as,hl,ha⟩,hn,q⟩:=h
    refine ⟨_,(pss_cons (ps_set (i:=1) sc_ends_of.nd rfl (Or.inl rfl) (pe_lst pa_nil))
      (pss_cons (ps_set (i:=2) sc_ends_of.nd rfl (Or.inl rfl) pe_int)
      (pss_cons (ps_for PassesOwn.never rfl (pi_list (pv 0)) (pg_name (i:=3) sc_ends_of.nd rfl (Or.inl rfl)) (pss_cons (ps_aug (i:=2) sc_ends_of.nd rfl (Or.inl rfl) (pe_fld (pv 3) rfl) ip_add)
        (pss_one (ps_expr (pe_bm PySem.F.plainAttrs_list PySem.F.slot_list_append PySem.F.type_list_append mt_append (pv 1) (pa_cons (pv 2) pa_nil))))))
      (pss_one (ps_ret (pv 1)))))),?_⟩
    refine ⟨by decide,fun e he=>?_⟩
    have hle:l ≠ e:=ne_of_none hl he
    refine ⟨_,rfl,l,rfl,⟨_,SqL.of (same_new he _ _ hl)⟩,for_list (K:=K) (a:=l) (xs:=as.map V.ref) (fun i σ H'=>∃ v,σ=[some (.ref l),some (.ref e),some (.int (MC.sz ss i:Int)),v]∧H'=upd H e (.lst (endsV ss i))) ?_ ?_ ?_ ?_⟩
    · exact ⟨none,by rw [MC.sz_zero]; rfl,rfl⟩
    · rintro i σ H' _ ⟨v,rfl,rfl⟩
      exact SqL.of (same_new he _ _ hl)
    · rintro i x σ H' hi ⟨v,rfl,rfl⟩
      obtain ⟨a,ea,rfl⟩:=ref_get hi
      obtain ⟨x,ex,dz,lz,az,hz0,hz,_⟩:=ha.get ea
      refine ⟨_,rfl,_,rfl,rf_Stretch_size g (same_new he _ _ hz) ⟨_,_,rfl,rfl,?_⟩⟩
      have hs:=MC.sz_succ ex
      have hi2:=(List.getElem?_eq_some_iff.mp ex).1
      refine ⟨_,rfl,.inl ⟨rfl,_,SqL.of upd_same⟩,_,rfl,e,_,_,rfl,rfl,upd_same,lim1 (k:=100000) (by rw [endsV_len]; omega),?_⟩
      refine ⟨some (.ref a),?_,?_⟩
      · rw [hs]
        rfl
      · rw [upd_upd,endsV_succ,hs]
        rfl
    · rintro σ H' ⟨v,rfl,rfl⟩
      refine ⟨_,rfl,q e _ (same_new he) he ?_⟩
      rw [upd_same,List.length_map,ha.1]
def sp_cut_from (g:Pg K mg):Sp:=fun vs H Q _=>∃ (N:Addr->Prop) (a kd:Addr) (t:Vafmta.Bytes) (n f:Nat) (kvs:List (Key × V)) (on:Nat->Option (List Vafmta.Stretch)),vs=[.ref a,.int n,.ref kd]∧(∀ b,H b=none->N b)∧TextAt H a t∧t.length ≤ 100000∧n ≤ t.length∧H kd=some (.dK kvs) ∧
  (∀ e:Nat,(valV kvs (Sum.inl (e:Int))).isSome=(on e).isSome)∧(t.drop n).length < f ∧
  ∀ l as H',Same H H'->H l=none->H' l=some (.lst (as.map V.ref))->as.length ≤ t.length + 1->StrsAt g N H' (fun i=>decide (i + 1 < (MC.fresh on f n (t.drop n)).1.length) || (MC.fresh on f n (t.drop n)).2) as (MC.fresh on f n (t.drop n)).1->Q (.ref l) H'
theorem ok_cut_from (g:Pg K mg):FnOk P w K mg base CX0 8 g.f_cut_from.a g.f_cut_from.fd ["text","place","known"] (sp_cut_from g):=by
  refine g.f_cut_from.F.ok sc_cut_from (fun vs H Q E h=>?_) (fun cdv A outer s H vs Q E hr h=>?_)
  · obtain ⟨N,a,kd,t,n,f,kvs,on,rfl,_⟩:=h; rfl
  · obtain ⟨N,a,kd,t,n,f,kvs,on,rfl,hN,ht,htl,hn,hk,hon,hf,q⟩:=h
    have hu:=hu_of hr
    refine ⟨_,(pss_cons (ps_set (i:=3) sc_cut_from.nd rfl (Or.inl rfl) (pe_make g.Cutter.mk1 (ok_Cutter_init g) (hr.mono (by decide)) rfl g.Cutter.mg g.Cutter.b .nil pass0 (pa_cons (pv 0) pa_nil)))
      (pss_cons (ps_set (i:=4) sc_cut_from.nd rfl (Or.inl rfl) (pe_lst pa_nil))
      (pss_one (ps_while PassesOwn.never (pt_val pe_bl) (pss_cons (ps_set (i:=5) sc_cut_from.nd rfl (Or.inl rfl) (pe_call (ok_cut_stretch g) (hr.mono (by decide)) rfl g.f_cut_stretch.m g.f_cut_stretch.F.kp g.f_cut_stretch.b .nil pass0 (pa_cons (pv 3) (pa_cons (pv 1) pa_nil))))
        (pss_cons (ps_expr (pe_bm PySem.F.plainAttrs_list PySem.F.slot_list_append PySem.F.type_list_append mt_append (pv 4) (pa_cons (pv 5) pa_nil)))
        (pss_cons (ps_aug (i:=1) sc_cut_from.nd rfl (Or.inl rfl) (pe_fld (pv 5) rfl) ip_add)
        (pss_one (ps_if (PW.pt (pw_or (pt_not (pt_val (pe_fld (pv 5) rfl))) (pw_or1 (pt_cmp (pc_din hu (pv 1) (pv 2)))))) (pss_one (ps_ret (pv 4))) pss_nil))))))))),?_⟩
    refine ⟨_,rfl,?_⟩
    refine mk_Cutter g ht htl fun c d H1 nc nd s1 C1=>?_
    refine ⟨by decide,fun l hl=>?_⟩
    have hlH:H l=none:=s1.free hl
    obtain ⟨kv1,hd1,hz1⟩:=C1.dic
    have hld:l ≠ d:=Ne.symm (ne_of_none hd1 hl)
    refine ⟨fun m σ H'=>∃ (n' f':Nat) (as:List Addr) (ss:List Vafmta.Stretch) (v:Option V),σ=[some (.ref a),some (.int (n':Int)),some (.ref kd),some (.ref c),some (.ref l),v]∧Same H H'∧CutterAt g H' c a d t∧H' l=some (.lst (as.map V.ref)) ∧
      StrsAt g (fun b=>N b∧b ≠ l) H' (fun _=>true) as ss∧n' ≤ t.length∧ss.length ≤ n'∧(t.drop n').length < f'∧m=t.length - n' ∧
      MC.fresh on f n (t.drop n)=(ss ++ (MC.fresh on f' n' (t.drop n')).1,(MC.fresh on f' n' (t.drop n')).2),⟨_,n,f,[],[],none,rfl,s1.trans (same_new hl),C1.same (same_new hl),upd_same,⟨rfl,fun i a s h=>by simp at h⟩,hn,Nat.zero_le _,hf,rfl,rfl⟩,?_⟩
    rintro m σ H2 ⟨n',f',as,ss,v,rfl,s2,C2,hl2,ha2,hn',hss,hf',rfl,eF⟩
    refine ⟨_,rfl,iteT ⟨_,fun _ _ z=>z,?_⟩⟩
    have hN2:∀ b,H2 b=none->N b∧b ≠ l:=fun b hb=>⟨hN b (s2.free hb),fun e=>by rw [e,hl2] at hb; cases hb⟩
    refine ⟨_,rfl,_,rfl,fun b=>N b∧b ≠ l,c,a,d,t,n',rfl,hN2,C2,hn',fun x H3 b3 nx S3 C3=>?_⟩
    obtain ⟨kv2,hd2,hz2⟩:=C2.dic
    have hl3:=b3 _ _ hl2 hld
    have s3:Same H H3:=b3.same s2 nd
    have ha3:StrsAt g (fun b=>N b∧b ≠ l) H3 (fun _=>true) as ss:=⟨ha2.1,fun i y z e1 e2=>(ha2.2 i y z e1 e2).but b3 hd2⟩
    refine ⟨_,rfl,.inl ⟨rfl,_,SqL.of hl3⟩,_,rfl,l,_,_,rfl,rfl,hl3,lim1 (k:=100000) (by rw [List.length_map,ha2.1]; omega),?_⟩
    generalize e4:upd H3 l (.lst (as.map V.ref ++ [.ref x]))=H4
    have hl4:H4 l=some (.lst ((as ++ [x]).map V.ref)):=by rw [← e4,upd_same,List.map_append]; rfl
    have s4:Same H H4:=by rw [← e4]; exact same_upd s3 hlH
    obtain ⟨kv3,hd3,hz3⟩:=C3.dic
    have hnl:¬ (fun b=>N b∧b ≠ l) l:=fun z=>z.2 rfl
    have ha4:StrsAt g (fun b=>N b∧b ≠ l) H4 (fun _=>true) as ss:=by rw [← e4]; exact ha3.lst hl3 hnl
    have S4:StretchAt g (fun b=>N b∧b ≠ l) H4 x (Cm.oneS (t.drop n')).1 (Cm.oneS (t.drop n')).2.2:=by rw [← e4]; exact S3.lst hl3 hnl
    have C4:CutterAt g H4 c a d t:=by
      obtain ⟨⟨dx,h1⟩,h2,_,h4⟩:=C3
      refine ⟨⟨dx,?_⟩,?_,⟨kv3,?_,hz3⟩,h4⟩
      · rw [← e4,upd_ne (ne_of h1 hl3 (by intro z; cases z))]; exact h1
      · exact s4 _ _ ht
      · rw [← e4,upd_ne (Ne.symm hld)]; exact hd3
    obtain ⟨dz,lz,az,hz0,hz,_⟩:=id S4
    refine ⟨_,rfl,_,rfl,rf_Stretch_size g hz ⟨_,_,rfl,rfl,?_⟩⟩
    obtain ⟨er,el⟩:=Cm.oneS_rest (t.drop n')
    rw [List.length_drop] at el
    rw [List.drop_drop] at er
    obtain ⟨f1,rfl⟩:∃ f1,f'=f1 + 1:=⟨f' - 1,by omega⟩
    have eS:=Cm.fresh_step on f1 n' (t.drop n')
    have fin:∀ (b:Bool),MC.fresh on (f1 + 1) n' (t.drop n')=([(Cm.oneS (t.drop n')).1],b)->(Cm.oneS (t.drop n')).2.2=b->Q (.ref l) H4:=by
      intro b e5 e6
      have e7:MC.fresh on f n (t.drop n)=(ss ++ [(Cm.oneS (t.drop n')).1],b):=by rw [eF,e5]
      refine q l (as ++ [x]) H4 s4 hlH hl4 (by rw [List.length_append,ha2.1]; simp; omega) ?_
      rw [e7]
      refine StrsAt.append (c1:=fun _=>true) (c2:=fun _=>b) (ha4.mono fun y z=>z.1) ⟨rfl,fun i y z q1 q2=>?_⟩ (fun i hi=>?_) (fun i hi=>?_)
      · cases i with
        | zero =>
          cases q1
          cases q2
          rw [← e6]
          exact S4.mono fun y z=>z.1
        | succ i=>simp at q1
      · simp only [List.length_append,List.length_singleton]
        rw [decide_eq_true (by omega)]
        rfl
      · have:i=0:=by simpa using hi
        subst this
        simp only [List.length_append,List.length_singleton,Nat.add_zero]
        rw [decide_eq_false (by omega)]
        rfl
    refine ⟨_,rfl,rf_Stretch_closed g hz ⟨_,rfl,?_⟩⟩
    cases hb:(Cm.oneS (t.drop n')).2.2 with
    | false =>
      refine iteT (iteT ⟨_,rfl,?_⟩)
      rw [if_pos hb] at eS
      exact fin false eS hb
    | true =>
      refine iteF ?_
      rw [if_neg (by rw [hb]; decide)] at eS
      refine ⟨_,rfl,_,rfl,kd,_,rfl,DGet.k (k:=Sum.inl ((n' + Vafmta.sizeOf_ (Cm.oneS (t.drop n')).1:Nat):Int)) (s4 _ _ hk),_,rfl,?_⟩
      rw [hon]
      refine ite2 (fun h1=>⟨_,rfl,?_⟩) (fun h1=>?_)
      · rw [if_pos h1] at eS
        exact fin true eS hb
      · rw [if_neg h1] at eS
        have hpos:=Cm.oneS_pos (t.drop n') hb
        refine ⟨t.length - (n' + Vafmta.sizeOf_ (Cm.oneS (t.drop n')).1),by omega,n' + Vafmta.sizeOf_ (Cm.oneS (t.drop n')).1,f1,as ++ [x],ss ++ [(Cm.oneS (t.drop n')).1],_,rfl,s4,C4,hl4,?_,by omega,by rw [List.length_append]; simp; omega,?_,rfl,?_⟩
        · refine StrsAt.append (c1:=fun _=>true) (c2:=fun _=>true) ha4 ⟨rfl,fun i y z q1 q2=>?_⟩ (fun _ _=>rfl) (fun _ _=>rfl)
          cases i with
          | zero =>
            cases q1
            cases q2
            rw [hb] at S4
            exact S4
          | succ i=>simp at q1
        · rw [List.length_drop] at hf' ⊢
          omega
        · rw [eF,eS,er,List.append_assoc]
          rfl
end
end Cb
end
section
set_option maxRecDepth 100000
set_option maxHeartbeats 4000000
namespace Cb
open PySem PySem.Spec PyProof.Rows L2
open Cm (bi)
theorem pg_tupk {X:Cx}{K:PySem.W.Frag}{es:List Expr}{k:Nat}{t:TGs}{n:Nat}{pos:Pos} (hK:X.K=K) (hc:X.calm=true) (h:PGs X es t) (hn:(assignEach es X.env).length=n) (hst:(assignEach es X.env).findIdx? (·.1)=none):PG X (.Tuple es k pos) (gTup K n t):=by
  subst hK
  exact pg_tup hc h hn hst
theorem lc_zip {K:PySem.W.Frag}{a b:Addr}{xs zs:List V}{g:TG}{tt:TT}{te:TE}{vs:List Nat}{σ:L2.St}{H1:Hp}{D:Addr}{Qd:Hp->Prop} (ys:Nat->List V) (h0:ys 0=[]) (hz:∀ i,i < xs.length->(ys i).length < sizeLine) (hD:H1 D=none) (hl:SqL K H1 a xs) (hl2:SqL K H1 b zs) (hlen:xs.length=zs.length)
    (hs:∀ i x y H T,xs[i]?=some x->zs[i]?=some y->Same H1 H->H T=some (.tup [x,y])->∀ (C:VK) (N0:Hp->Prop),(∀ y,ys (i + 1)=ys i ++ [y]->C y H)->(ys (i + 1)=ys i->N0 H) →
      g (.ref T) (wipe σ vs) H fun σ2 H2=>wipe σ2 vs=wipe σ vs∧tt σ2 H2 fun b H3=>if b=true then te σ2 H3 C else N0 H3)
    (hd:∀ H,Same H1 H->H D=some (.lst (ys xs.length))->Qd H) :
    ∃ W:Nat->Nat->Hp->Prop,(∃ m,W 0 m (upd H1 D (.lst [])))∧∀ i m H,W i m H →
      ((Itz K a b).stop i H∧Qd H) ∨ ((Itz K a b).go i H∧∃ Nx:Hp->Prop,(∀ H',Nx H'->∃ m',m' < m∧W (i + 1) m' H')∧∀ x H',(Itz K a b).yld i H x H'->g x (wipe σ vs) H' fun σ2 H2=>wipe σ2 vs=wipe σ vs∧tt σ2 H2 fun b H3 =>
        if b=true then te σ2 H3 fun y H4=>∃ acc,H4 D=some (.lst acc)∧acc.length < sizeLine∧Nx (upd H4 D (.lst (acc ++ [y]))) else Nx H3):=by
  refine ⟨fun i m H=>m=xs.length - i∧i ≤ xs.length∧H D=some (.lst (ys i))∧Same H1 H,⟨xs.length,by simp,Nat.zero_le _,by rw [h0]; exact upd_same,same_new hD⟩,?_⟩
  rintro i m H ⟨rfl,hi,hDi,s⟩
  by_cases hlt:i < xs.length
  · refine .inr ⟨⟨xs,zs,xs[i],zs[i]'(by omega),s.seq hl,s.seq hl2,List.getElem?_eq_getElem hlt,List.getElem?_eq_getElem (by omega)⟩,_,fun H' z=>z,?_⟩
    rintro v H' ⟨T,x,y,rfl,hT,rfl,hx,hy⟩
    have hDT:D ≠ T:=ne_of_none hDi hT
    have s':=s.trans (same_new (o:=.tup [x,y]) hT)
    refine hs i x y _ T (hx xs (s.seq hl)) (hy zs (s.seq hl2)) s' upd_same _ _ (fun u eu=>?_) (fun eu=>?_)
    · refine ⟨ys i,by rw [upd_ne hDT]; exact hDi,hz i hlt,xs.length - (i + 1),by omega,rfl,by omega,?_,same_upd s' hD⟩
      rw [upd_same,eu]
    · exact ⟨xs.length - (i + 1),by omega,rfl,by omega,by rw [upd_ne hDT,eu]; exact hDi,s'⟩
  · have e:i=xs.length:=by omega
    subst e
    exact .inl ⟨⟨xs,zs,s.seq hl,s.seq hl2,.inl (Nat.le_refl _)⟩,hd H s hDi⟩
theorem for_enum {K:PySem.W.Frag}{a:Addr}{xs:List V}{g:TG}{tb:TS}{D:Ends}{σ:L2.St}{H:Hp} (Pv:Nat->L2.St->Hp->Prop) (h0:Pv 0 σ H) (hl:∀ i σ H,i ≤ xs.length->Pv i σ H->SqL K H a xs)
    (hs:∀ i x σ H T,xs[i]?=some x->Pv i σ H->H T=none->g (.ref T) σ (upd H T (.tup [.int (i:Nat),x])) fun σ2 H2=>tb { D with nx:=Pv (i + 1),ct:=Pv (i + 1),bk:=D.nx } σ2 H2) (hd:∀ σ H,Pv xs.length σ H->D.nx σ H) :
    ∃ W:Nat->Nat->L2.St->Hp->Prop,(∃ m,W 0 m σ H)∧∀ i m σ H,W i m σ H →
      ((Ite K a).stop i H∧D.nx σ H) ∨ ((Ite K a).go i H∧∃ N:L2.St->Hp->Prop,(∀ σ' H',N σ' H'->∃ m',m' < m∧W (i + 1) m' σ' H')∧∀ x H',(Ite K a).yld i H x H'->g x σ H' fun σ2 H2=>tb { D with nx:=N,ct:=N,bk:=D.nx } σ2 H2):=by
  refine ⟨fun i m σ H=>m=xs.length - i∧i ≤ xs.length∧Pv i σ H,⟨xs.length,by simp,Nat.zero_le _,h0⟩,?_⟩
  rintro i m σ H ⟨rfl,hi,p⟩
  have q:=hl i σ H hi p
  by_cases hlt:i < xs.length
  · refine .inr ⟨⟨xs,xs[i],q,by simp [hlt]⟩,Pv (i + 1),fun σ' H' p'=>⟨xs.length - (i + 1),by omega,rfl,hlt,p'⟩,fun v H' y=>?_⟩
    obtain ⟨T,x,rfl,hT,rfl,hx⟩:=y
    exact hs i x σ H T (hx xs q) p hT
  · have e:i=xs.length:=by omega
    subst e
    exact .inl ⟨⟨xs,q,Nat.le_refl _⟩,hd σ H p⟩
section
variable {P:Program}{w:World}{K:PySem.W.Frag}{mg:Str->Option Value}{base:Heap}
def sp_line_begin : Sp:=fun vs H Q _=>∃ (a:Addr) (t:Vafmta.Bytes) (n:Nat),vs=[.ref a,.int n]∧TextAt H a t∧n ≤ t.length∧Q (.int (Vafmta.lineStart t n:Nat)) H
theorem ok_line_begin (g:Pg K mg):FnOk P w K mg base CX0 1 g.f_line_begin.a g.f_line_begin.fd ["text","place"] sp_line_begin:=by
  refine g.f_line_begin.F.ok sc_line_begin (fun vs H Q E h=>?_) (fun cdv A outer s H vs Q E hr h=>?_)
  · obtain ⟨a,t,n,rfl,_⟩:=h; rfl
  · obtain ⟨a,t,n,rfl,ht,hn,q⟩:=h
    refine ⟨_,(pss_cons (ps_while PassesOwn.never (PW.pt (pw_and (pt_cmpR op_gt (pv 1) pe_int (nomark _)) (pw_and1 (pt_cmpR op_ne (pe_ix ix_list (pv 0) (pe_op op_sub (pv 1) pe_int) (fun _ _=>rfl)) (pe_gint rfl g.g_LINE_END_BYTE) (nomark _))))) (pss_one (ps_aug (i:=1) sc_line_begin.nd rfl (Or.inl rfl) pe_int ip_sub)))
      (pss_one (ps_ret (pv 1)))),?_⟩
    refine ⟨fun m σ H'=>σ=[some (.ref a),some (.int (m:Int))]∧H'=H∧m ≤ t.length∧Vafmta.lineStart t m=Vafmta.lineStart t n,⟨n,rfl,rfl,hn,rfl⟩,?_⟩
    rintro m σ H' ⟨rfl,rfl,hm,e⟩
    refine ⟨_,rfl,_,_,rfl,rfl,_,rfl,ite2 (fun h=>?_) (fun h=>?_)⟩
    · have hlt:=of_decide_eq_true h
      obtain ⟨k,rfl⟩:∃ k,m=k + 1:=⟨m - 1,by omega⟩
      obtain ⟨c,hc,_⟩:=Cm.drop_lt (t:=t) (n:=k) (by omega)
      have ek:((k + 1:Nat):Int) - 1=(k:Int):=by omega
      refine ⟨_,rfl,_,rfl,_,_,rfl,rfl,_,_,_,_,rfl,rfl,SqL.of ht,by rw [ek]; exact bV_at hc,rfl,_,rfl,?_⟩
      rw [show (!decide (V.int (bi c)=V.int 10))=(c != Vafmta.LINE) from ne_byte c 10 (by decide) _ rfl]
      refine ite2 (fun h1=>?_) (fun h1=>?_)
      · refine ⟨_,fun _ _ z=>z,?_⟩
        refine ⟨_,rfl,_,_,rfl,rfl,k,by omega,?_,rfl,by omega,?_⟩
        · show [some (V.ref a),some (V.int (((k + 1:Nat):Int) - 1))]=_
          rw [ek]
        · rw [← e,Cm.lineStart_step hc (by simpa using h1)]
      · have hc1:c=Vafmta.LINE:=by simpa using h1
        refine ⟨_,rfl,?_⟩
        rw [← e,Cm.lineStart_stop (by rw [hc,hc1])] at q
        exact q
    · have hlt:¬ (0:Int) < (m:Int):=fun z=>h (decide_eq_true z)
      have:m=0:=by omega
      subst this
      refine iteF ⟨_,rfl,?_⟩
      rw [← e,Cm.lineStart_zero] at q
      exact q
structure CutAt (g:Pg K mg) (N:Addr->Prop) (H:Hp) (x ta sl:Addr) (as:List Addr) (t:Vafmta.Bytes) (ss:List Vafmta.Stretch) (fr:Int):Prop where
  obj:∃ dx,H x=some (.ins g.Cut.C dx (fCut ta sl fr))
  txt:TextAt H ta t
  lst:H sl=some (.lst (as.map V.ref))
  sts:StrsAt g N H (fun i=>decide (i + 1 < ss.length)) as ss
  nt:N ta
  ns:N sl
  good:MC.Good t ss
  len:t.length ≤ 20000
theorem CutAt.same {g:Pg K mg}{N:Addr->Prop}{H H':Hp}{x ta sl:Addr}{as:List Addr}{t:Vafmta.Bytes}{ss:List Vafmta.Stretch}{fr:Int} (h:CutAt g N H x ta sl as t ss fr) (s:Same H H'):CutAt g N H' x ta sl as t ss fr:=by
  obtain ⟨⟨dx,h1⟩,h2,h3,h4,h5,h6,h7,h8⟩:=h
  exact ⟨⟨dx,s _ _ h1⟩,s _ _ h2,s _ _ h3,h4.same s,h5,h6,h7,h8⟩
theorem CutAt.few {g:Pg K mg}{N:Addr->Prop}{H:Hp}{x ta sl:Addr}{as:List Addr}{t:Vafmta.Bytes}{ss:List Vafmta.Stretch}{fr:Int} (h:CutAt g N H x ta sl as t ss fr):ss.length ≤ 100000:=by
  have hne:ss ≠ []:=h.good.ne
  have key:∀ k,k + 1 ≤ ss.length->k ≤ MC.sz ss k:=by
    intro k
    induction k with
    | zero=>intro _; omega
    | succ k ih =>
      intro hk
      have:=ih (by omega)
      have:=h.good.lt (show k < k + 1 by omega) (by omega)
      omega
  have h1:=key (ss.length - 1) (by have:0 < ss.length:=List.length_pos_iff.mpr hne; omega)
  have h2:=h.good.sz_le (ss.length - 1)
  have:=h.len
  omega
theorem CutAt.stsX {g:Pg K mg}{N:Addr->Prop}{H:Hp}{x ta sl:Addr}{as:List Addr}{t:Vafmta.Bytes}{ss:List Vafmta.Stretch}{fr:Int} (h:CutAt g N H x ta sl as t ss fr):Strs g H sl ss:=⟨N,_,as,h.lst,h.sts⟩
def sp_kept_stretches (g:Pg K mg):Sp:=fun vs H Q _=>∃ (N:Addr->Prop) (x ta sl:Addr) (as:List Addr) (t:Vafmta.Bytes) (ss:List Vafmta.Stretch) (fr:Int) (a k:Nat),vs=[.ref x,.int a]∧CutAt g N H x ta sl as t ss fr∧a ≤ t.length∧k ≤ ss.length ∧
  (∀ j,j < k->MC.sz ss (j + 1) < Vafmta.lineStart t a)∧(k < ss.length->Vafmta.lineStart t a ≤ MC.sz ss (k + 1))∧∀ l H',Same H H'->H l=none->H' l=some (.lst ((as.take k).map V.ref))->Q (.ref l) H'
theorem ok_kept_stretches (g:Pg K mg):FnOk P w K mg base CX0 2 g.f_kept_stretches.a g.f_kept_stretches.fd ["cut","a"] (sp_kept_stretches g):=by
  refine g.f_kept_stretches.F.ok sc_kept_stretches (fun vs H Q E h=>?_) (fun cdv A outer s H vs Q E hr h=>?_)
  · obtain ⟨N,x,ta,sl,as,t,ss,fr,a,k,rfl,_⟩:=h; rfl
  · obtain ⟨N,x,ta,sl,as,t,ss,fr,a,k,rfl,C,ha,hk,h1,h2,q⟩:=h
    refine ⟨_,(pss_cons (ps_set (i:=2) sc_kept_stretches.nd rfl (Or.inr rfl) (pe_call (ok_line_begin g) (hr.mono (by decide)) rfl g.f_line_begin.m g.f_line_begin.F.kp g.f_line_begin.b .nil pass0 (pa_cons (pe_fld (pv 0) rfl) (pa_cons (pv 1) pa_nil))))
      (pss_one (ps_ret (pe_lc rfl sc_kept_stretches.nd (pi_zip rfl g.n_zip (pa_cons (pe_fld (pv 0) rfl) (pa_cons (pe_call (ok_ends_of g) (hr.mono (by decide)) rfl g.f_ends_of.m g.f_ends_of.F.kp g.f_ends_of.b .nil pass0 (pa_cons (pe_fld (pv 0) rfl) pa_nil)) pa_nil))) (own:=[("stretch",3),("end",4)]) (blk_by (N:=["cut","a","begin","stretch","end"]) (sc:=defScope s_kept_stretches) rfl rfl (by decide +kernel)) (fun _ _ _ _ _=>pg_tupk (K:=K) (n:=2) rfl rfl (pgs_cons (pg_name (i:=3) sc_kept_stretches.nd rfl (Or.inl rfl) (Or.inr rfl)) (pgs_cons (pg_name (i:=4) sc_kept_stretches.nd rfl (Or.inl rfl) (Or.inr rfl)) pgs_nil)) rfl rfl) (fun _ _ _ _ _=>(pts_one (pt_cmpR op_lt (pv 4) (pv 2) (nomark _)))) (fun _ _ _ _ _=>(pv 3)))))),?_⟩
    obtain ⟨dx,ho⟩:=C.obj
    refine ⟨_,rfl,rf_Cut_text g ho ⟨_,rfl,ta,t,a,rfl,C.txt,ha,?_⟩⟩
    refine ⟨_,rfl,rf_Cut_stretches g ho ⟨_,rfl,rf_Cut_stretches g ho ⟨sl,ss,rfl,C.stsX,C.few,fun e H1 s1 ne he=>?_⟩⟩⟩
    have C1:=C.same s1
    have hlen:(as.map V.ref).length=(endsV ss ss.length).length:=by rw [List.length_map,endsV_len,C.sts.1]
    refine ⟨sl,e,_,_,rfl,SqL.of C1.lst,SqL.of he,fun D hD=>lc_zip (xs:=as.map V.ref) (zs:=endsV ss ss.length) (fun i=>(as.take (min i k)).map V.ref) rfl (fun i hi=>?_) hD (SqL.of C1.lst) (SqL.of he) hlen (fun i v y H2 T hx hy s2 hT C0 N0 c1 c0=>?_) (fun H2 s2 hD2=>?_)⟩
    · rw [List.length_map,List.length_take]
      have:=C.few
      have:=C.sts.1
      exact lim1 (k:=100000) (by omega)
    · obtain ⟨y',ey,rfl⟩:=ref_get hx
      have hi:=(List.getElem?_eq_some_iff.mp ey).1
      rw [C.sts.1] at hi
      have ev:y=V.int (MC.sz ss (i + 1):Int):=by
        unfold endsV at hy
        rw [List.getElem?_map,List.getElem?_range hi] at hy
        exact (Option.some.inj hy).symm
      subst ev
      refine ⟨T,_,rfl,SqT.of hT,rfl,_,_,rfl,_,_,rfl,rfl,rfl,_,rfl,_,rfl,_,_,rfl,rfl,_,rfl,ite2 (fun h=>⟨_,rfl,c1 _ ?_⟩) (fun h=>c0 ?_)⟩
      · have h':=of_decide_eq_true h
        have hik:=(Cm.kept_iff h1 h2 hi).mp (by omega)
        show (as.take (min (i + 1) k)).map V.ref=(as.take (min i k)).map V.ref ++ _
        rw [Nat.min_eq_left (by omega),Nat.min_eq_left (by omega),take_snoc ey,List.map_append]
        rfl
      · have h':¬ i < k:=fun z=>h (decide_eq_true (by have:=(Cm.kept_iff h1 h2 hi).mpr z; omega))
        show (as.take (min (i + 1) k)).map V.ref=(as.take (min i k)).map V.ref
        rw [Nat.min_eq_right (by omega),Nat.min_eq_right (by omega)]
    · rw [List.length_map,C.sts.1,Nat.min_eq_right hk] at hD2
      exact q D H2 (s1.trans s2) (s1.free hD) hD2
def Known (ss:List Vafmta.Stretch) (b:Nat) (longer:Int) (k:Nat) (kvs:List (Key × V)):Prop :=
  ∀ (e:Int) (v:V),valV kvs (Sum.inl e)=some v ↔ ∃ j:Nat,j < k∧j + 1 < ss.length∧b ≤ MC.sz ss (j + 1)∧e=(MC.sz ss (j + 1):Int) + longer∧v = .int ((j:Int) + 1)
def sp_known_ends (g:Pg K mg):Sp:=fun vs H Q _=>∃ (N:Addr->Prop) (x ta sl:Addr) (as:List Addr) (t:Vafmta.Bytes) (ss:List Vafmta.Stretch) (fr:Int) (b:Nat) (longer:Int),vs=[.ref x,.int b,.int longer]∧CutAt g N H x ta sl as t ss fr ∧
  ∀ kd kvs H',Same H H'->H kd=none->H' kd=some (.dK kvs)->Known ss b longer ss.length kvs->Q (.ref kd) H'
theorem ok_known_ends (g:Pg K mg):FnOk P w K mg base CX0 2 g.f_known_ends.a g.f_known_ends.fd ["cut","b","longer"] (sp_known_ends g):=by
  refine g.f_known_ends.F.ok sc_known_ends (fun vs H Q E h=>?_) (fun cdv A outer s H vs Q E hr h=>?_)
  · obtain ⟨N,x,ta,sl,as,t,ss,fr,b,longer,rfl,_⟩:=h; rfl
  · obtain ⟨N,x,ta,sl,as,t,ss,fr,b,longer,rfl,C,q⟩:=h
    have hu:=hu_of hr
    refine ⟨_,(pss_cons (ps_set (i:=3) sc_known_ends.nd rfl (Or.inl rfl) pe_dnewK)
      (pss_cons (ps_for PassesOwn.never rfl (pi_enum rfl g.n_enumerate (pa_cons (pe_call (ok_ends_of g) (hr.mono (by decide)) rfl g.f_ends_of.m g.f_ends_of.F.kp g.f_ends_of.b .nil pass0 (pa_cons (pe_fld (pv 0) rfl) pa_nil)) pa_nil)) (pg_tup rfl (pgs_cons (pg_name (i:=4) sc_known_ends.nd rfl (Or.inl rfl)) (pgs_cons (pg_name (i:=5) sc_known_ends.nd rfl (Or.inl rfl)) pgs_nil))) (pss_one (ps_if (PW.pt (pw_and (pt_val (pe_fld (pe_ix ix_list (pe_fld (pv 0) rfl) (pv 4) (fun _ _=>rfl)) rfl)) (pw_and1 (pt_cmpR op_ge (pv 5) (pv 1) (nomark _))))) (pss_one (ps_dput hu (pv 3) (pe_op op_add (pv 5) (pv 2)) (pe_op op_add (pv 4) pe_int) rfl)) pss_nil)))
      (pss_one (ps_ret (pv 3))))),?_⟩
    intro kd hkd
    have s0:Same H (upd H kd (.dK [])):=same_new hkd
    have C0:=C.same s0
    obtain ⟨dx,ho⟩:=C0.obj
    refine ⟨_,rfl,rf_Cut_stretches g ho ⟨sl,ss,rfl,C0.stsX,C.few,fun e H1 s1 ne he=>?_⟩⟩
    have hek:e ≠ kd:=fun z=>by rw [z,upd_same] at ne; cases ne
    have ne':H e=none:=s0.free ne
    refine ⟨e,_,rfl,SqL.of he,for_enum (K:=K) (a:=e) (xs:=endsV ss ss.length) (fun i σ H'=>∃ v1 v2 kvs,σ=[some (.ref x),some (.int (b:Int)),some (.int longer),some (.ref kd),v1,v2]∧Same H H'∧H' e=some (.lst (endsV ss ss.length))∧H' kd=some (.dK kvs)∧kvs.length ≤ i∧Known ss b longer i kvs) ?_ ?_ ?_ ?_⟩
    · refine ⟨none,none,[],rfl,s0.trans s1,he,s1 _ _ upd_same,Nat.le_refl _,fun e v=>⟨fun z=>?_,fun ⟨j,hj,_⟩=>by omega⟩⟩
      rw [valV_nil] at z
      cases z
    · rintro i σ H' _ ⟨v1,v2,kvs,rfl,_,he',_⟩
      exact SqL.of he'
    · rintro i y σ H2 T hi ⟨v1,v2,kvs,rfl,s2,he2,hk2,hlen2,K2⟩ hT
      have hil:=(List.getElem?_eq_some_iff.mp hi).1
      rw [endsV_len] at hil
      have ev:y=V.int (MC.sz ss (i + 1):Int):=by
        unfold endsV at hi
        rw [List.getElem?_map,List.getElem?_range hil] at hi
        exact (Option.some.inj hi).symm
      subst ev
      have s3:Same H2 (upd H2 T (.tup [.int (i:Nat),.int (MC.sz ss (i + 1):Int)])):=same_new hT
      have C3:=(C.same s2).same s3
      obtain ⟨dx3,ho3⟩:=C3.obj
      obtain ⟨a,ea⟩:∃ a,as[i]?=some a:=⟨_,List.getElem?_eq_getElem (by rw [C.sts.1]; exact hil)⟩
      obtain ⟨z,ez,dz,lz,az,hz0,hz,_⟩:=C3.sts.get ea
      refine ⟨T,_,rfl,SqT.of upd_same,rfl,_,_,rfl,_,_,rfl,rfl,?_⟩
      have no:¬ (i + 1 < ss.length∧b ≤ MC.sz ss (i + 1))->Known ss b longer (i + 1) kvs:=fun n e v=>by
        rw [K2 e v]
        constructor
        · rintro ⟨j,h1,h2⟩
          exact ⟨j,by omega,h2⟩
        · rintro ⟨j,h1,h2,h3,h4⟩
          have:j ≠ i:=fun e=>n (by rw [← e]; exact ⟨h2,h3⟩)
          exact ⟨j,by omega,h2,h3,h4⟩
      refine ⟨_,rfl,rf_Cut_stretches g ho3 ⟨_,rfl,_,_,_,_,rfl,rfl,SqL.of C3.lst,atI_nat (by rw [List.getElem?_map,ea]; rfl),rf_Stretch_closed g hz ⟨_,rfl,ite2 (fun h=>?_) (fun h=>?_)⟩⟩⟩
      · have hc:=of_decide_eq_true h
        refine ⟨_,rfl,_,rfl,_,_,rfl,rfl,_,rfl,ite2 (fun h'=>?_) (fun h'=>?_)⟩
        · have hb:b ≤ MC.sz ss (i + 1):=by have:=of_decide_eq_true h'; omega
          refine ⟨_,rfl,_,_,rfl,rfl,_,rfl,_,rfl,_,rfl,_,_,rfl,rfl,kd,_,rfl,DPut.k (k:=Sum.inl ((MC.sz ss (i + 1):Int) + longer)) (s3 _ _ hk2) (lim1 (k:=100000) (by have:=C.few; omega)),?_⟩
          refine ⟨_,_,_,rfl,?_,?_,upd_same,Nat.le_trans (length_putK ..) (by omega),fun e v=>?_⟩
          · exact same_upd (s2.trans s3) hkd
          · rw [upd_ne hek]
            exact s3 _ _ he2
          · rw [valV_put]
            by_cases hq:(Sum.inl e:Key)=Sum.inl ((MC.sz ss (i + 1):Int) + longer)
            · rw [if_pos hq]
              have hq':e=(MC.sz ss (i + 1):Int) + longer:=Sum.inl.inj hq
              constructor
              · intro z
                exact ⟨i,by omega,hc,hb,hq',(Option.some.inj z).symm⟩
              · rintro ⟨j,h1,h2,h3,h4,h5⟩
                have:j=i:=by
                  rcases Nat.lt_trichotomy j i with z | z | z
                  · have:=C.good.lt (show j + 1 < i + 1 by omega) hc
                    omega
                  · exact z
                  · omega
                rw [h5,this]
            · rw [if_neg hq,K2 e v]
              constructor
              · rintro ⟨j,h1,h2⟩
                exact ⟨j,by omega,h2⟩
              · rintro ⟨j,h1,h2,h3,h4,h5⟩
                have:j ≠ i:=fun z=>hq (by rw [h4,z])
                exact ⟨j,by omega,h2,h3,h4,h5⟩
        · exact ⟨_,_,kvs,rfl,s2.trans s3,s3 _ _ he2,s3 _ _ hk2,by omega,no fun z=>h' (decide_eq_true (by omega))⟩
      · refine iteF ⟨_,_,kvs,rfl,s2.trans s3,s3 _ _ he2,s3 _ _ hk2,by omega,no fun z=>h (decide_eq_true z.1)⟩
    · rintro σ H2 ⟨v1,v2,kvs,rfl,s2,he2,hk2,hlen2,K2⟩
      rw [endsV_len] at K2
      exact ⟨_,rfl,q kd kvs H2 s2 hkd hk2 K2⟩
end
end Cb
end
section
set_option maxRecDepth 100000
set_option maxHeartbeats 4000000
namespace Cb
open PySem PySem.Spec PyProof.Rows L2
open Cm (bi)
section
variable {P:Program}{w:World}{K:PySem.W.Frag}{mg:Str->Option Value}{base:Heap}
def sp_Cut_init (g:Pg K mg):Sp:=fun vs H Q _=>∃ (p dx ta sl:Addr) (fr:Int),vs=[.ref p,.ref ta,.ref sl,.int fr]∧H p=some (.ins g.Cut.C dx [])∧Q .non (upd H p (.ins g.Cut.C dx (fCut ta sl fr)))
theorem ok_Cut_init (g:Pg K mg):FnOk P w K mg base CX0 1 g.Cut.a g.Cut.fd ["self","text","stretches","fresh"] (sp_Cut_init g):=by
  refine g.Cut.F.ok sc_Cut_init (fun vs H Q E h=>?_) (fun cdv A outer s H vs Q E hr h=>?_)
  · obtain ⟨p,dx,ta,sl,fr,rfl,_⟩:=h; rfl
  · obtain ⟨p,dx,ta,sl,fr,rfl,hp,q⟩:=h
    refine ⟨_,(pss_cons (ps_fld (pv 0) (pv 1) rfl)
      (pss_cons (ps_fld (pv 0) (pv 2) rfl)
      (pss_one (ps_fld (pv 0) (pv 3) rfl)))),?_⟩
    refine ⟨_,rfl,_,rfl,fsto hp g.Cut.cl (g.Cut.na _ (by decide +kernel)) (by simp) (pi_Cut_text (x1:=ta) (x2:=fr)) ?_⟩
    refine ⟨_,rfl,_,rfl,fsto upd_same g.Cut.cl (g.Cut.na _ (by decide +kernel)) (by simp) (pi_Cut_stretches (x2:=fr)) ?_⟩
    refine ⟨_,rfl,_,rfl,fsto upd_same g.Cut.cl (g.Cut.na _ (by decide +kernel)) (by simp) pi_Cut_fresh ?_⟩
    rw [upd_upd,upd_upd]
    exact q
theorem mk_Cut (g:Pg K mg) {ta sl:Addr}{fr:Int}{H:Hp}{R:Addr->Hp->Prop}{E:XK} (h:∀ x H',H x=none->Same H H'->(∃ dx,H' x=some (.ins g.Cut.C dx (fCut ta sl fr)))->R x H'):∀ x dx,H x=none->H dx=none->dx ≠ x →
    sp_Cut_init g (.ref x :: ([.ref ta,.ref sl,.int fr] ++ [])) (upd (upd H dx (.own x)) x (.ins g.Cut.C dx [])) (fun v H2=>v = .non∧R x H2) E:=fun x dx nx nd ne =>
  ⟨x,dx,ta,sl,fr,rfl,upd_same,rfl,h x _ nx (by rw [upd_upd]; exact same_new2 nx nd) ⟨dx,upd_same⟩⟩
def sp_cut_whole (g:Pg K mg):Sp:=fun vs H Q _=>∃ (N:Addr->Prop) (a:Addr) (t:Vafmta.Bytes),vs=[.ref a]∧(∀ b,H b=none->N b)∧TextAt H a t∧N a∧t.length ≤ 20000 ∧
  ∀ x sl as H',Same H H'->H x=none->CutAt g N H' x a sl as t (Vafmta.stretchesOf t) (t.length:Int)->Q (.ref x) H'
theorem ok_cut_whole (g:Pg K mg):FnOk P w K mg base CX0 9 g.f_cut_whole.a g.f_cut_whole.fd ["text"] (sp_cut_whole g):=by
  refine g.f_cut_whole.F.ok sc_cut_whole (fun vs H Q E h=>?_) (fun cdv A outer s H vs Q E hr h=>?_)
  · obtain ⟨N,a,t,rfl,_⟩:=h; rfl
  · obtain ⟨N,a,t,rfl,hN,ht,na,hl,q⟩:=h
    refine ⟨_,(pss_one (ps_ret (pe_make g.Cut.mk1 (ok_Cut_init g) (hr.mono (by decide)) rfl g.Cut.mg g.Cut.b .nil pass0 (pa_cons (pv 0) (pa_cons (pe_call (ok_cut_from g) (hr.mono (by decide)) rfl g.f_cut_from.m g.f_cut_from.F.kp g.f_cut_from.b .nil pass0 (pa_cons (pv 0) (pa_cons pe_int (pa_cons pe_dnewK pa_nil)))) (pa_cons (pe_callB call_len_seq (by rfl) g.n_len PySem.boot_len (pa_cons (pv 0) pa_nil)) pa_nil)))))),?_⟩
    refine ⟨_,rfl,_,rfl,fun kd hkd=>?_⟩
    have s0:Same H (upd H kd (.dK [])):=same_new hkd
    refine ⟨N,a,kd,t,0,t.length + 1,[],fun _=>none,rfl,fun b hb=>hN b (s0.free hb),s0 _ _ ht,by omega,Nat.zero_le _,upd_same,fun e=>rfl,by rw [List.drop_zero]; omega,fun l as H1 s1 nl hl1 hal S1=>?_⟩
    rw [List.drop_zero,Cm.fresh_none] at S1
    have s01:=s0.trans s1
    refine ⟨_,rfl,_,_,rfl,.inl (SqL.of (s01 _ _ ht)),?_⟩
    refine mk_Cut g fun x H2 nx s2 hx=>?_
    have s02:=s01.trans s2
    refine q x l as H2 s02 (s01.free nx) ⟨?_,s02 _ _ ht,s2 _ _ hl1,?_,na,hN l (s0.free nl),MC.stretchesOf_good t,hl⟩
    · rw [bV_len] at hx
      exact hx
    · have S2:=S1.same s2
      simp only [Bool.or_false] at S2
      exact S2
def sp_cut_anew (g:Pg K mg):Sp:=fun vs H Q _=>∃ (N:Addr->Prop) (x ta sl:Addr) (as:List Addr) (t:Vafmta.Bytes) (ss:List Vafmta.Stretch) (fr:Int) (a b:Nat) (ra:Addr) (r:Vafmta.Bytes),vs=[.ref x,.int a,.int b,.ref ra]∧(∀ b,H b=none->N b) ∧
  CutAt g N H x ta sl as t ss fr∧TextAt H ra r∧a ≤ b∧b ≤ t.length∧(Vafmta.edited t a b r).length ≤ 20000 ∧
  ∀ x' ta' sl' as' H',Same H H'->H x'=none->CutAt g N H' x' ta' sl' as' (Vafmta.edited t a b r) (Vafmta.recut t ss a b r).1 ((Vafmta.recut t ss a b r).2:Int)->Q (.ref x') H'
theorem ok_cut_anew (g:Pg K mg):FnOk P w K mg base CX0 9 g.f_cut_anew.a g.f_cut_anew.fd ["cut","a","b","row"] (sp_cut_anew g):=by
  refine g.f_cut_anew.F.ok sc_cut_anew (fun vs H Q E h=>?_) (fun cdv A outer s H vs Q E hr h=>?_)
  · obtain ⟨N,x,ta,sl,as,t,ss,fr,a,b,ra,r,rfl,_⟩:=h; rfl
  · obtain ⟨N,x,ta,sl,as,t,ss,fr,a,b,ra,r,rfl,hN,C,hra,hab,hbt,hul,q⟩:=h
    have hu:=hu_of hr
    refine ⟨_,(pss_cons (ps_set (i:=4) sc_cut_anew.nd rfl (Or.inl rfl) (pe_op op_cat (pe_op op_cat (pe_slice sl_list (pe_fld (pv 0) rfl) po_none (po_some (pv 1))) (pv 3)) (pe_slice sl_list (pe_fld (pv 0) rfl) (po_some (pv 2)) po_none)))
      (pss_cons (ps_set (i:=5) sc_cut_anew.nd rfl (Or.inl rfl) (pe_call (ok_kept_stretches g) (hr.mono (by decide)) rfl g.f_kept_stretches.m g.f_kept_stretches.F.kp g.f_kept_stretches.b .nil pass0 (pa_cons (pv 0) (pa_cons (pv 1) pa_nil))))
      (pss_cons (ps_set (i:=6) sc_cut_anew.nd rfl (Or.inl rfl) (pe_call (ok_total_size g) (hr.mono (by decide)) rfl g.f_total_size.m g.f_total_size.F.kp g.f_total_size.b .nil pass0 (pa_cons (pv 5) pa_nil)))
      (pss_cons (ps_set (i:=7) sc_cut_anew.nd rfl (Or.inl rfl) (pe_call (ok_known_ends g) (hr.mono (by decide)) rfl g.f_known_ends.m g.f_known_ends.F.kp g.f_known_ends.b .nil pass0 (pa_cons (pv 0) (pa_cons (pv 2) (pa_cons (pe_op op_sub (pe_callB call_len_seq (by rfl) g.n_len PySem.boot_len (pa_cons (pv 4) pa_nil)) (pe_callB call_len_seq (by rfl) g.n_len PySem.boot_len (pa_cons (pe_fld (pv 0) rfl) pa_nil))) pa_nil)))))
      (pss_cons (ps_set (i:=8) sc_cut_anew.nd rfl (Or.inl rfl) (pe_call (ok_cut_from g) (hr.mono (by decide)) rfl g.f_cut_from.m g.f_cut_from.F.kp g.f_cut_from.b .nil pass0 (pa_cons (pv 4) (pa_cons (pv 6) (pa_cons (pv 7) pa_nil)))))
      (pss_cons (ps_set (i:=9) sc_cut_anew.nd rfl (Or.inl rfl) (pe_op op_add (pv 6) (pe_call (ok_total_size g) (hr.mono (by decide)) rfl g.f_total_size.m g.f_total_size.F.kp g.f_total_size.b .nil pass0 (pa_cons (pv 8) pa_nil))))
      (pss_cons (ps_set (i:=10) sc_cut_anew.nd rfl (Or.inl rfl) (pe_lst pa_nil))
      (pss_cons (ps_if (pt_val (pe_fld (pe_ix ix_list (pv 8) (pe_un un_neg pe_int) (fun _ _=>rfl)) rfl)) (pss_one (ps_set (i:=10) sc_cut_anew.nd rfl (Or.inl rfl) (pe_slice sl_list (pe_fld (pv 0) rfl) (po_some (pe_dget hu (pv 7) (pv 9) (fun _ _=>rfl))) po_none))) pss_nil)
      (pss_one (ps_ret (pe_make g.Cut.mk1 (ok_Cut_init g) (hr.mono (by decide)) rfl g.Cut.mg g.Cut.b .nil pass0 (pa_cons (pv 4) (pa_cons (pe_op op_cat (pe_op op_cat (pv 5) (pv 8)) (pv 10)) (pa_cons (pe_op op_sub (pv 9) (pv 6)) pa_nil)))))))))))))),?_⟩
    obtain ⟨dx,ho⟩:=C.obj
    have hel:=MC.edited_len (new:=r) hab hbt
    obtain ⟨k,hk,hk1,hk2,erec⟩:=MC.recut_is (t:=t) (new:=r) (ss:=ss) (a:=a) (b:=b)
    have hklt:=Cm.kept_lt C.good (by omega) hk1 hk
    generalize hU:Vafmta.edited t a b r=u at hul hel q erec
    refine ⟨_,rfl,rf_Cut_text g ho ⟨_,rfl,_,rfl,ta,_,rfl,SqL.of C.txt,fun p1 hp1=>?_⟩⟩
    rw [cut_left (by rw [bV_len]; omega),bV_take]
    generalize e1:upd H p1 (.lst (bV (t.take a)))=H1
    have s1:Same H H1:=by rw [← e1]; exact same_new hp1
    have h1:H1 p1=some (.lst (bV (t.take a))):=by rw [← e1]; exact upd_same
    have hlr:r.length ≤ 40000:=by omega
    have hlt:t.length ≤ 40000:=by have:=C.len; omega
    refine ⟨_,rfl,p1,ra,_,_,rfl,rfl,h1,s1 _ _ hra,lim (k:=100000) (by rw [bV_len,bV_len,List.length_take]; omega),fun p2 hp2=>?_⟩
    rw [← bV_append]
    generalize e2:upd H1 p2 (.lst (bV (t.take a ++ r)))=H2
    have s2:Same H1 H2:=by rw [← e2]; exact same_new hp2
    have h2:H2 p2=some (.lst (bV (t.take a ++ r))):=by rw [← e2]; exact upd_same
    refine ⟨_,rfl,rf_Cut_text g (s2 _ _ (s1 _ _ ho)) ⟨_,rfl,_,rfl,ta,_,rfl,SqL.of (s2 _ _ (s1 _ _ C.txt)),fun p3 hp3=>?_⟩⟩
    rw [cut_right (by rw [bV_len]; omega),bV_drop]
    generalize e3:upd H2 p3 (.lst (bV (t.drop b)))=H3
    have s3:Same H2 H3:=by rw [← e3]; exact same_new hp3
    have h3:H3 p3=some (.lst (bV (t.drop b))):=by rw [← e3]; exact upd_same
    refine ⟨p2,p3,_,_,rfl,rfl,s3 _ _ h2,h3,lim (k:=200000) (by rw [bV_len,bV_len,List.length_append,List.length_take,List.length_drop]; omega),fun p4 hp4=>?_⟩
    rw [← bV_append,show t.take a ++ r ++ t.drop b=u from by rw [← hU,List.append_assoc]; rfl]
    generalize e4:upd H3 p4 (.lst (bV u))=H4
    have s4:Same H3 H4:=by rw [← e4]; exact same_new hp4
    have h4:TextAt H4 p4 u:=by rw [← e4]; exact upd_same
    have S4:Same H H4:=((s1.trans s2).trans s3).trans s4
    have n4:H p4=none:=((s1.trans s2).trans s3).free hp4
    clear e1 e2 e3 e4 h1 h2 h3
    refine ⟨_,rfl,_,rfl,N,x,ta,sl,as,t,ss,fr,a,k,rfl,C.same S4,by omega,hk,hk1,hk2,fun lk H5 s5 nk hk5=>?_⟩
    have S5:=S4.trans s5
    have C5:=C.same S5
    refine ⟨_,rfl,lk,ss.take k,rfl,⟨N,_,as.take k,hk5,C5.sts.take k⟩,by rw [List.length_take]; have:=C.few; omega,fun H6 s6=>?_⟩
    have S6:=S5.trans s6
    have C6:=C.same S6
    obtain ⟨dx6,ho6⟩:=C6.obj
    rw [← MC.sz_total]
    refine ⟨_,rfl,_,rfl,_,rfl,_,_,rfl,.inl (SqL.of (s6 _ _ (s5 _ _ h4))),_,rfl,rf_Cut_text g ho6 ⟨_,_,rfl,.inl (SqL.of C6.txt),_,_,rfl,rfl,N,x,ta,sl,as,t,ss,fr,b,_,rfl,C6,fun kd kvs H7 s7 nkd hkd K7=>?_⟩⟩
    have elong:((bV u).length:Int) - ((bV t).length:Int)=(r.length:Int) - ((b - a:Nat):Int):=by rw [bV_len,bV_len]; omega
    rw [elong] at K7
    have S7:=S6.trans s7
    have hszk:MC.sz ss k ≤ a:=by
      cases k with
      | zero=>rw [MC.sz_zero]; omega
      | succ j=>have:=hk1 j (by omega); have:=MC.lineStart_le t a; omega
    have hon:∀ e:Nat,(valV kvs (Sum.inl (e:Int))).isSome=(MC.goOn ((r.length:Int) - ((b - a:Nat):Int)) (a + r.length) (MC.sz ss k) (ss.drop k) e).isSome:=fun e=>by
      apply Bool.eq_iff_iff.mpr
      rw [Option.isSome_iff_exists,Option.isSome_iff_exists]
      constructor
      · rintro ⟨v,hv⟩
        obtain ⟨j,_,h2,h3,h4,_⟩:=(K7 _ _).mp hv
        exact ⟨_,(MC.goOn_iff C.good hab hk hk1 e _).mpr ⟨j,h2,h3,h4,rfl⟩⟩
      · rintro ⟨z,hz⟩
        obtain ⟨j,h2,h3,h4,_⟩:=(MC.goOn_iff C.good hab hk hk1 e _).mp hz
        exact ⟨_,(K7 _ _).mpr ⟨j,by omega,h2,h3,h4,rfl⟩⟩
    refine ⟨_,rfl,_,rfl,_,rfl,N,p4,kd,u,MC.sz ss k,u.length + 1,kvs,_,rfl,fun b hb=>hN b (S7.free hb),s7 _ _ (s6 _ _ (s5 _ _ h4)),by omega,by omega,hkd,hon,by rw [List.length_drop]; omega,fun lf af H8 s8 nlf hlf haf S8=>?_⟩
    have hfg:=MC.fresh_good (MC.goOn ((r.length:Int) - ((b - a:Nat):Int)) (a + r.length) (MC.sz ss k) (ss.drop k)) (u.length + 1) (MC.sz ss k) (u.drop (MC.sz ss k)) (by rw [List.length_drop]; omega)
    simp only at hfg erec
    generalize hy:MC.fresh (MC.goOn ((r.length:Int) - ((b - a:Nat):Int)) (a + r.length) (MC.sz ss k) (ss.drop k)) (u.length + 1) (MC.sz ss k) (u.drop (MC.sz ss k))=y at hfg erec S8
    obtain ⟨_,_,hyne,_,hycl⟩:=hfg
    have SS8:=S7.trans s8
    have hyl:y.1.length ≤ 100000:=by rw [← S8.1]; omega
    refine ⟨_,rfl,_,rfl,lf,y.1,rfl,⟨N,_,af,hlf,S8⟩,hyl,fun H9 s9=>⟨_,_,rfl,rfl,?_⟩⟩
    have S9:=SS8.trans s9
    have C9:=C.same S9
    obtain ⟨dx9,ho9⟩:=C9.obj
    have sf9:=S8.same s9
    have hlf9:=s9 _ _ hlf
    have hk9:H9 lk=some (.lst ((as.take k).map V.ref)):=s9 _ _ (s8 _ _ (s7 _ _ (s6 _ _ hk5)))
    have h49:TextAt H9 p4 u:=s9 _ _ (s8 _ _ (s7 _ _ (s6 _ _ (s5 _ _ h4))))
    have hkd9:H9 kd=some (.dK kvs):=s9 _ _ (s8 _ _ hkd)
    have nlf0:H lf=none:=S7.free nlf
    refine ⟨by decide,fun pr hpr=>?_⟩
    have fin:∀ (H':Hp) (pz:Addr) (az:List Addr) (zs:List Vafmta.Stretch),Same H9 H'->H' pz=some (.lst (az.map V.ref))->StrsAt g N H' (fun i=>decide (i + 1 < zs.length)) az zs->zs.length ≤ 100000->(y.2=true ↔ zs ≠ [])->Vafmta.recut t ss a b r=(ss.take k ++ (y.1 ++ zs),MC.total y.1) →
        tRet (tMake g.Cut.C (sp_Cut_init g) [] E0 (tCons (tVar 4) (tCons (tOp rCat (tOp rCat (tVar 5) (tVar 8)) (tVar 10)) (tCons (tOp (rI0 fun i j=>.int (i - j)) (tVar 9) (tVar 6)) tNil)))) { nx:=fun _ H'=>Q .non H',rt:=Q }
          [some (.ref x),some (.int (a:Int)),some (.int (b:Int)),some (.ref ra),some (.ref p4),some (.ref lk),some (.int (MC.sz ss k:Int)),some (.ref kd),some (.ref lf),some (.int ((MC.sz ss k:Int) + (MC.total y.1:Int))),some (.ref pz)] H':=by
      intro H' pz az zs sH hpz Sz hzl hy2 er
      have hkl:(as.take k).length=k:=by rw [List.length_take,C.sts.1]; omega
      refine ⟨_,rfl,_,rfl,_,rfl,lk,lf,_,_,rfl,rfl,sH _ _ hk9,sH _ _ hlf9,lim (k:=300000) (by rw [List.length_map,List.length_map,hkl]; have:=C.few; omega),fun p5 hp5=>?_⟩
      have s5':Same H' (upd H' p5 (.lst ((as.take k).map V.ref ++ af.map V.ref))):=same_new hp5
      refine ⟨_,rfl,p5,pz,_,_,rfl,rfl,upd_same,s5' _ _ hpz,lim (k:=500000) (by rw [List.length_append,List.length_map,List.length_map,List.length_map,hkl,Sz.1]; have:=C.few; omega),fun p6 hp6=>?_⟩
      generalize e6:upd (upd H' p5 (.lst ((as.take k).map V.ref ++ af.map V.ref))) p6 (.lst (((as.take k).map V.ref ++ af.map V.ref) ++ az.map V.ref))=H6'
      have s6':Same H' H6':=by rw [← e6]; exact s5'.trans (same_new hp6)
      have h6':H6' p6=some (.lst ((as.take k ++ (af ++ az)).map V.ref)):=by rw [← e6,upd_same,List.map_append,List.map_append,List.append_assoc]
      have n6:H p6=none:=(S9.trans (sH.trans s5')).free hp6
      refine ⟨_,rfl,_,rfl,_,_,rfl,rfl,?_⟩
      refine mk_Cut g fun x' H7' nx' s7' hx'=>?_
      have SF:Same H H7':=S9.trans (sH.trans (s6'.trans s7'))
      have G:=MC.recut_good (new:=r) C.good hab hbt
      rw [hU] at G
      refine q x' p4 p6 (as.take k ++ (af ++ az)) H7' SF ((S9.trans (sH.trans s6')).free nx') ⟨?_,s7' _ _ (s6' _ _ (sH _ _ h49)),s7' _ _ h6',?_,hN _ n4,hN _ n6,G,hul⟩
      · rw [er]
        have:((MC.sz ss k:Int) + (MC.total y.1:Int)) - (MC.sz ss k:Int)=((MC.total y.1:Nat):Int):=by omega
        rw [this] at hx'
        exact hx'
      · rw [er]
        have sAll:Same H' H7':=s6'.trans s7'
        have T1:StrsAt g N H7' (fun i=>decide (i + 1 < ss.length)) (as.take k) (ss.take k):=(C.sts.take k).same SF
        have T2:=(sf9.same sH).same sAll
        have T3:=Sz.same sAll
        have hkl2:(ss.take k).length=k:=by rw [List.length_take]; omega
        have hy1:0 < y.1.length:=List.length_pos_iff.mpr hyne
        refine StrsAt.append T1 (StrsAt.append (cl:=fun i=>decide (i + 1 < y.1.length + zs.length)) T2 T3 (fun i hi=>?_) (fun i hi=>?_)) (fun i hi=>?_) (fun i hi=>?_)
        · show decide (i + 1 < y.1.length + zs.length)=(decide (i + 1 < y.1.length) || y.2)
          cases hc:y.2 with
          | false =>
            have:zs=[]:=by
              cases zs with
              | nil=>rfl
              | cons z l=>rw [hc] at hy2; exact absurd (hy2.mpr (List.cons_ne_nil _ _)) (by decide)
            rw [this,Bool.or_false]
            exact decide_eq_decide.mpr (by simp)
          | true =>
            have:0 < zs.length:=List.length_pos_iff.mpr (hy2.mp hc)
            rw [Bool.or_true]
            exact decide_eq_true (by omega)
        · show decide (y.1.length + i + 1 < y.1.length + zs.length)=decide (i + 1 < zs.length)
          exact decide_eq_decide.mpr (by omega)
        · show decide (i + 1 < (ss.take k ++ (y.1 ++ zs)).length)=decide (i + 1 < ss.length)
          rw [hkl2] at hi
          rw [List.length_append,List.length_append,hkl2,decide_eq_true (by omega),decide_eq_true (by omega)]
        · show decide ((ss.take k).length + i + 1 < (ss.take k ++ (y.1 ++ zs)).length)=decide (i + 1 < y.1.length + zs.length)
          rw [List.length_append,List.length_append,hkl2]
          exact decide_eq_decide.mpr (by omega)
    obtain ⟨ai,al,eal⟩:∃ ai al,af=ai ++ [al]:=by
      have hne:af ≠ []:=fun e=>hyne (by have:=S8.1; rw [e] at this; exact List.length_eq_zero_iff.mp this.symm)
      exact ⟨_,_,(List.dropLast_concat_getLast hne).symm⟩
    have sr:Same H9 (upd H9 pr (.lst [])):=same_new hpr
    have hal:af[ai.length]?=some al:=by rw [eal]; simp
    obtain ⟨zl,ezl,dz,lz,az,hz0,hz,_⟩:=(sf9.same sr).get hal
    have hlast:(decide (ai.length + 1 < y.1.length) || y.2)=y.2:=by
      rw [decide_eq_false]
      · rfl
      · have:=S8.1
        rw [eal,List.length_append] at this
        simp at this
        omega
    rw [hlast] at hz
    refine ⟨_,rfl,_,rfl,lf,_,_,V.ref al,rfl,rfl,SqL.of (sr _ _ hlf9),?_,rf_Stretch_closed g hz ⟨_,rfl,?_⟩⟩
    · rw [eal,List.map_append]
      exact atI_last _ _
    cases hc:y.2 with
    | false =>
      refine iteF ?_
      rw [hc,if_neg (by decide)] at erec
      exact fin _ pr [] [] sr upd_same ⟨rfl,fun i a s h=>by simp at h⟩ (by simp) (by rw [hc]; simp) erec
    | true =>
      refine iteT ?_
      obtain ⟨_,hsome⟩:=hycl hc
      obtain ⟨zr,hzr⟩:=Option.isSome_iff_exists.mp hsome
      obtain ⟨j,j1,j2,j3,j4⟩:=(MC.goOn_iff C.good hab hk hk1 _ _).mp hzr
      have hv:valV kvs (Sum.inl ((MC.sz ss k:Int) + (MC.total y.1:Int)))=some (.int ((j:Int) + 1)):=(K7 _ _).mpr ⟨j,by omega,j1,j2,by omega,rfl⟩
      have C10:=C9.same sr
      obtain ⟨dx10,ho10⟩:=C10.obj
      have hg:DGet (upd H9 pr (.lst [])) kd (.int ((MC.sz ss k:Int) + (MC.total y.1:Int))) (some (.int ((j:Int) + 1))):=by
        have:=DGet.k (k:=Sum.inl ((MC.sz ss k:Int) + (MC.total y.1:Int))) (sr _ _ hkd9)
        rw [hv] at this
        exact this
      refine ⟨_,rfl,rf_Cut_stretches g ho10 ⟨_,rfl,_,rfl,kd,_,rfl,hg,_,rfl,sl,_,rfl,SqL.of C10.lst,fun pz hpz=>?_⟩⟩
      have sz:Same (upd H9 pr (.lst [])) (upd (upd H9 pr (.lst [])) pz (.lst (cutV (as.map V.ref) (some ((j:Int) + 1)) none))):=same_new hpz
      have ecut:cutV (as.map V.ref) (some ((j:Int) + 1)) none=(as.drop (j + 1)).map V.ref:=by
        rw [show (some ((j:Int) + 1):Option Int)=some ((j + 1:Nat):Int) from rfl,cut_right (by rw [List.length_map,C.sts.1]; omega),List.map_drop]
      rw [hc,if_pos rfl,hzr] at erec
      have erec2:Vafmta.recut t ss a b r=(ss.take k ++ (y.1 ++ ss.drop (j + 1)),MC.total y.1):=by rw [erec,j4]; rfl
      refine fin _ pz (as.drop (j + 1)) (ss.drop (j + 1)) (sr.trans sz) (by rw [upd_same,ecut]) ?_ (by rw [List.length_drop]; have:=C.few; omega) ?_ erec2
      · refine (C10.same sz).sts.drop (j + 1) fun i=>?_
        rw [List.length_drop]
        exact decide_eq_decide.mpr (by omega)
      · rw [hc]
        simp
        omega
end
end Cb
end
section
set_option maxRecDepth 100000
set_option maxHeartbeats 4000000
namespace Cb
open PySem PySem.Spec PyProof.Rows L2
open Cm (bi)
theorem lc_enum {K:PySem.W.Frag}{a:Addr}{xs:List V}{g:TG}{tt:TT}{te:TE}{vs:List Nat}{σ:L2.St}{H1:Hp}{D:Addr}{Qd:Hp->Prop} (ys:Nat->List V) (h0:ys 0=[]) (hz:∀ i,i < xs.length->(ys i).length < sizeLine) (hD:H1 D=none) (hl:SqL K H1 a xs)
    (hs:∀ i x H T,xs[i]?=some x->Same H1 H->H T=some (.tup [.int (i:Nat),x])->∀ (C:VK) (N0:Hp->Prop),(∀ y,ys (i + 1)=ys i ++ [y]->C y H)->(ys (i + 1)=ys i->N0 H) →
      g (.ref T) (wipe σ vs) H fun σ2 H2=>wipe σ2 vs=wipe σ vs∧tt σ2 H2 fun b H3=>if b=true then te σ2 H3 C else N0 H3)
    (hd:∀ H,Same H1 H->H D=some (.lst (ys xs.length))->Qd H) :
    ∃ W:Nat->Nat->Hp->Prop,(∃ m,W 0 m (upd H1 D (.lst [])))∧∀ i m H,W i m H →
      ((Ite K a).stop i H∧Qd H) ∨ ((Ite K a).go i H∧∃ Nx:Hp->Prop,(∀ H',Nx H'->∃ m',m' < m∧W (i + 1) m' H')∧∀ x H',(Ite K a).yld i H x H'->g x (wipe σ vs) H' fun σ2 H2=>wipe σ2 vs=wipe σ vs∧tt σ2 H2 fun b H3 =>
        if b=true then te σ2 H3 fun y H4=>∃ acc,H4 D=some (.lst acc)∧acc.length < sizeLine∧Nx (upd H4 D (.lst (acc ++ [y]))) else Nx H3):=by
  refine ⟨fun i m H=>m=xs.length - i∧i ≤ xs.length∧H D=some (.lst (ys i))∧Same H1 H,⟨xs.length,by simp,Nat.zero_le _,by rw [h0]; exact upd_same,same_new hD⟩,?_⟩
  rintro i m H ⟨rfl,hi,hDi,s⟩
  by_cases hlt:i < xs.length
  · refine .inr ⟨⟨xs,xs[i],s.seq hl,List.getElem?_eq_getElem hlt⟩,_,fun H' z=>z,?_⟩
    rintro v H' ⟨T,x,rfl,hT,rfl,hx⟩
    have hDT:D ≠ T:=ne_of_none hDi hT
    have s':=s.trans (same_new (o:=.tup [.int (i:Nat),x]) hT)
    refine hs i x _ T (hx xs (s.seq hl)) s' upd_same _ _ (fun u eu=>?_) (fun eu=>?_)
    · refine ⟨ys i,by rw [upd_ne hDT]; exact hDi,hz i hlt,xs.length - (i + 1),by omega,rfl,by omega,?_,same_upd s' hD⟩
      rw [upd_same,eu]
    · exact ⟨xs.length - (i + 1),by omega,rfl,by omega,by rw [upd_ne hDT,eu]; exact hDi,s'⟩
  · have e:i=xs.length:=by omega
    subst e
    exact .inl ⟨⟨xs,s.seq hl,Nat.le_refl _⟩,hd H s hDi⟩
section
variable {P:Program}{w:World}{K:PySem.W.Frag}{mg:Str->Option Value}{base:Heap}
def sp_line_begins : Sp:=fun vs H Q _=>∃ (a:Addr) (t:Vafmta.Bytes),vs=[.ref a]∧TextAt H a t∧t.length ≤ 20000∧∀ p H',Same H H'->H' p=some (.lst (nV (0 :: Cm.lbFrom 0 t)))->Q (.ref p) H'
theorem ok_line_begins (g:Pg K mg):FnOk P w K mg base CX0 1 g.f_line_begins.a g.f_line_begins.fd ["text"] sp_line_begins:=by
  refine g.f_line_begins.F.ok sc_line_begins (fun vs H Q E h=>?_) (fun cdv A outer s H vs Q E hr h=>?_)
  · obtain ⟨a,t,rfl,_⟩:=h; rfl
  · obtain ⟨a,t,rfl,ht,hl,q⟩:=h
    refine ⟨_,(pss_one (ps_ret (pe_op op_cat (pe_lst (pa_cons pe_int pa_nil)) (pe_lc rfl sc_line_begins.nd (pi_enum rfl g.n_enumerate (pa_cons (pv 0) pa_nil)) (own:=[("place",1),("byte",2)]) (blk_by (N:=["text","place","byte"]) (sc:=defScope s_line_begins) rfl rfl (by decide +kernel)) (fun _ _ _ _ _=>pg_tupk (K:=K) (n:=2) rfl rfl (pgs_cons (pg_name (i:=1) sc_line_begins.nd rfl (Or.inl rfl) (Or.inr rfl)) (pgs_cons (pg_name (i:=2) sc_line_begins.nd rfl (Or.inl rfl) (Or.inr rfl)) pgs_nil)) rfl rfl) (fun _ _ _ _ _=>(pts_one (pt_cmpR op_eq (pv 2) (pe_gint rfl g.g_LINE_END_BYTE) (nomark _)))) (fun _ _ _ _ _=>(pe_op op_add (pv 1) pe_int)))))),?_⟩
    refine ⟨by decide,fun p hp=>?_⟩
    have s0:Same H (upd H p (.lst [.int 0])):=same_new hp
    refine ⟨_,rfl,a,_,rfl,SqL.of (s0 _ _ ht),fun D hD=>lc_enum (xs:=bV t) (fun i=>nV (Cm.lbFrom 0 (t.take i))) rfl (fun i hi=>?_) hD (SqL.of (s0 _ _ ht)) (fun i v H2 T hx s2 hT C0 N0 c1 c0=>?_) (fun H2 s2 hD2=>?_)⟩
    · rw [nV_len]
      have:=Cm.lbFrom_len (t.take i) 0
      rw [List.length_take] at this
      exact lim1 (k:=20000) (by omega)
    · obtain ⟨c,ec,rfl⟩:=bv_get hx
      have hil:=(List.getElem?_eq_some_iff.mp ec).1
      have hsn:Cm.lbFrom 0 (t.take (i + 1))=Cm.lbFrom 0 (t.take i) ++ (if c=Vafmta.LINE then [i + 1] else []):=by
        rw [take_snoc ec,Cm.lbFrom_snoc,List.length_take,Nat.min_eq_left (by omega),Nat.zero_add]
      refine ⟨T,_,rfl,SqT.of hT,rfl,_,_,rfl,_,_,rfl,rfl,rfl,_,rfl,rfl,_,rfl,ite2 (fun h=>⟨_,rfl,_,_,rfl,rfl,c1 _ ?_⟩) (fun h=>c0 ?_)⟩
      · have e:c=Vafmta.LINE:=byte_is (k:=10) (by decide) (int_eq h)
        show nV (Cm.lbFrom 0 (t.take (i + 1)))=nV (Cm.lbFrom 0 (t.take i)) ++ _
        rw [hsn,if_pos e,nV_append]
        rfl
      · have e:c ≠ Vafmta.LINE:=byte_not (k:=10) (by decide) (int_ne h)
        show nV (Cm.lbFrom 0 (t.take (i + 1)))=nV (Cm.lbFrom 0 (t.take i))
        rw [hsn,if_neg e,List.append_nil]
    · rw [bV_len,List.take_length] at hD2
      have hll:=Cm.lbFrom_len t 0
      refine ⟨p,D,_,_,rfl,rfl,s2 _ _ upd_same,hD2,lim (k:=30000) (by rw [nV_len]; simp; omega),fun p2 hp2=>?_⟩
      exact q p2 _ ((s0.trans s2).trans (same_new hp2)) upd_same
def sp_line_and_column : Sp:=fun vs H Q _=>∃ (a:Addr) (t:Vafmta.Bytes) (n:Nat),vs=[.ref a,.int n]∧TextAt H a t∧n ≤ t.length∧∀ p H',Same H H'->H' p=some (.tup [.int (Vafmta.lineOf t n:Int),.int (Vafmta.columnOf t n:Int)])->Q (.ref p) H'
theorem ok_line_and_column (g:Pg K mg):FnOk P w K mg base CX0 2 g.f_line_and_column.a g.f_line_and_column.fd ["text","place"] sp_line_and_column:=by
  refine g.f_line_and_column.F.ok sc_line_and_column (fun vs H Q E h=>?_) (fun cdv A outer s H vs Q E hr h=>?_)
  · obtain ⟨a,t,n,rfl,_⟩:=h; rfl
  · obtain ⟨a,t,n,rfl,ht,hn,q⟩:=h
    refine ⟨_,(pss_one (ps_ret (pe_tup (pa_cons (pe_bm PySem.F.plainAttrs_list PySem.F.slot_list_count PySem.F.type_list_count mt_lcount (pe_slice sl_list (pv 0) po_none (po_some (pv 1))) (pa_cons (pe_gint rfl g.g_LINE_END_BYTE) pa_nil)) (pa_cons (pe_op op_sub (pv 1) (pe_call (ok_line_begin g) (hr.mono (by decide)) rfl g.f_line_begin.m g.f_line_begin.F.kp g.f_line_begin.b .nil pass0 (pa_cons (pv 0) (pa_cons (pv 1) pa_nil)))) pa_nil))))),?_⟩
    refine ⟨_,rfl,_,rfl,_,rfl,a,_,rfl,SqL.of ht,fun p hp=>?_⟩
    rw [cut_left (by rw [bV_len]; exact hn),bV_take]
    have s0:Same H (upd H p (.lst (bV (t.take n)))):=same_new hp
    have eb:bV (t.take n)=((t.take n).map bi).map V.int:=by unfold bV; rw [List.map_map]; rfl
    refine ⟨.inl ⟨rfl,_,SqL.of upd_same⟩,p,(t.take n).map bi,10,rfl,rfl,SqL.of (by rw [upd_same,eb]),?_⟩
    rw [Cm.count_lines]
    refine ⟨_,rfl,_,rfl,_,rfl,a,t,n,rfl,s0 _ _ ht,hn,_,_,rfl,rfl,(by show 2 ≤ sizeLine; decide),fun p2 hp2=>?_⟩
    refine q p2 _ (s0.trans (same_new hp2)) ?_
    rw [upd_same]
    have:((n:Int) - (Vafmta.lineStart t n:Int))=(Vafmta.columnOf t n:Int):=by
      unfold Vafmta.columnOf
      have:=MC.lineStart_le t n
      omega
    show some (HO.tup [_,V.int ((n:Int) - (Vafmta.lineStart t n:Int))])=_
    rw [this]
    rfl
def sp_place_at : Sp:=fun vs H Q _=>∃ (a:Addr) (t:Vafmta.Bytes) (l c:Int),vs=[.ref a,.int l,.int c]∧TextAt H a t∧t.length ≤ 20000∧∀ H',Same H H'->Q (.int (Cm.placeI t l c)) H'
theorem ok_place_at (g:Pg K mg):FnOk P w K mg base CX0 3 g.f_place_at.a g.f_place_at.fd ["text","line","column"] sp_place_at:=by
  refine g.f_place_at.F.ok sc_place_at (fun vs H Q E h=>?_) (fun cdv A outer s H vs Q E hr h=>?_)
  · obtain ⟨a,t,l,c,rfl,_⟩:=h; rfl
  · obtain ⟨a,t,l,c,rfl,ht,hl,q⟩:=h
    refine ⟨_,(pss_cons (ps_set (i:=3) sc_place_at.nd rfl (Or.inl rfl) (pe_call (ok_line_begins g) (hr.mono (by decide)) rfl g.f_line_begins.m g.f_line_begins.F.kp g.f_line_begins.b .nil pass0 (pa_cons (pv 0) pa_nil)))
      (pss_cons (ps_if (PW.pt (pw_or (pt_cmpR op_lt (pv 1) pe_int (nomark _)) (pw_or (pt_cmpR op_ge (pv 1) (pe_callB call_len_seq (by rfl) g.n_len PySem.boot_len (pa_cons (pv 3) pa_nil)) (nomark _)) (pw_or1 (pt_cmpR op_lt (pv 2) pe_int (nomark _)))))) (pss_one (ps_ret (pe_un un_neg pe_int))) pss_nil)
      (pss_cons (ps_set (i:=4) sc_place_at.nd rfl (Or.inl rfl) (pe_op op_add (pe_ix ix_list (pv 3) (pv 1) (fun _ _=>rfl)) (pv 2)))
      (pss_cons (ps_if (pt_cmpR op_gt (pv 4) (pe_call (ok_rest_end g) (hr.mono (by decide)) rfl g.f_rest_end.m g.f_rest_end.F.kp g.f_rest_end.b .nil pass0 (pa_cons (pv 0) (pa_cons (pe_ix ix_list (pv 3) (pv 1) (fun _ _=>rfl)) pa_nil))) (nomark _)) (pss_one (ps_ret (pe_un un_neg pe_int))) pss_nil)
      (pss_one (ps_ret (pv 4))))))),?_⟩
    refine ⟨_,rfl,a,t,rfl,ht,hl,fun p H1 s1 hp=>?_⟩
    have neg:Cm.placeI t l c = -1->Q (.int (-1)) H1:=fun e=>by have:=q H1 s1; rw [e] at this; exact this
    refine ⟨_,rfl,_,_,rfl,rfl,_,rfl,ite2 (fun h1=>?_) (fun h1=>?_)⟩
    · exact ⟨_,rfl,neg (Cm.placeI_neg (.inl (of_decide_eq_true h1)))⟩
    have n1:¬ l < 0:=fun z=>h1 (decide_eq_true z)
    refine ⟨_,rfl,_,rfl,_,_,rfl,.inl (SqL.of hp),_,_,rfl,rfl,_,rfl,ite2 (fun h2=>?_) (fun h2=>?_)⟩
    · have z:=of_decide_eq_true h2
      rw [nV_len] at z
      exact ⟨_,rfl,neg (Cm.placeI_none (List.getElem?_eq_none (by omega)))⟩
    have n2:¬ ((nV (0 :: Cm.lbFrom 0 t)).length:Int) ≤ l:=fun z=>h2 (decide_eq_true z)
    rw [nV_len] at n2
    refine ⟨_,rfl,_,_,rfl,rfl,_,rfl,ite2 (fun h3=>?_) (fun h3=>?_)⟩
    · exact ⟨_,rfl,neg (Cm.placeI_neg (.inr (of_decide_eq_true h3)))⟩
    have n3:¬ c < 0:=fun z=>h3 (decide_eq_true z)
    obtain ⟨b,hb⟩:∃ b,(0 :: Cm.lbFrom 0 t)[l.toNat]?=some b:=⟨_,List.getElem?_eq_getElem (by omega)⟩
    have hb':(nV (0 :: Cm.lbFrom 0 t))[l.toNat]?=some (.int (b:Int)):=by
      unfold nV
      rw [List.getElem?_map,hb]
      rfl
    have hat:atI (nV (0 :: Cm.lbFrom 0 t)) l=some (.int (b:Int)):=at_of (by omega) hb'
    have hbl:b ≤ t.length:=by
      rcases List.mem_cons.mp (List.mem_of_getElem? hb) with e | e
      · omega
      · have:=Cm.lbFrom_le t 0 b e; omega
    refine ⟨_,rfl,_,rfl,_,_,_,_,rfl,rfl,SqL.of hp,hat,_,rfl,_,_,rfl,rfl,?_⟩
    have hval:=Cm.placeI_some (t:=t) (l:=l) (c:=c) (s:=b) (by omega) hb
    refine ⟨_,rfl,_,rfl,_,rfl,_,rfl,_,_,_,_,rfl,rfl,SqL.of hp,hat,a,t,b,rfl,s1 _ _ ht,hbl,_,_,rfl,rfl,_,rfl,ite2 (fun h4=>?_) (fun h4=>?_)⟩
    · rw [if_pos (of_decide_eq_true h4)] at hval
      exact ⟨_,rfl,neg hval⟩
    · rw [if_neg (fun z=>h4 (decide_eq_true z))] at hval
      refine ⟨_,rfl,?_⟩
      have:=q H1 s1
      rw [hval] at this
      exact this
def sp_kind_and_number (g:Pg K mg):Sp:=fun vs H Q _=>∃ (N:Addr->Prop) (x ta sl:Addr) (as:List Addr) (t:Vafmta.Bytes) (ss:List Vafmta.Stretch) (fr:Int) (n:Nat),vs=[.ref x,.int n]∧CutAt g N H x ta sl as t ss fr ∧
  ∀ p H',Same H H'->H' p=some (.tup [.int (Cm.kindNum n 0 ss.flatten).1,.int (Cm.kindNum n 0 ss.flatten).2])->Q (.ref p) H'
theorem ok_kind_and_number (g:Pg K mg):FnOk P w K mg base CX0 2 g.f_kind_and_number.a g.f_kind_and_number.fd ["cut","place"] (sp_kind_and_number g):=by
  refine g.f_kind_and_number.F.ok sc_kind_and_number (fun vs H Q E h=>?_) (fun cdv A outer s H vs Q E hr h=>?_)
  · obtain ⟨N,x,ta,sl,as,t,ss,fr,n,rfl,_⟩:=h; rfl
  · obtain ⟨N,x,ta,sl,as,t,ss,fr,n,rfl,C,q⟩:=h
    refine ⟨_,(pss_cons (ps_set (i:=2) sc_kind_and_number.nd rfl (Or.inl rfl) pe_int)
      (pss_cons (ps_set (i:=3) sc_kind_and_number.nd rfl (Or.inl rfl) pe_int)
      (pss_cons (ps_for PassesOwn.never rfl (pi_list (pe_fld (pv 0) rfl)) (pg_name (i:=4) sc_kind_and_number.nd rfl (Or.inl rfl)) (pss_one (ps_for PassesOwn.never rfl (pi_list (pe_fld (pv 4) rfl)) (pg_name (i:=5) sc_kind_and_number.nd rfl (Or.inl rfl)) (pss_cons (ps_aug (i:=2) sc_kind_and_number.nd rfl (Or.inl rfl) (pe_fld (pv 5) rfl) ip_add)
          (pss_cons (ps_if (pt_cmpR op_lt (pv 1) (pv 2) (nomark _)) (pss_one (ps_ret (pe_tup (pa_cons (pe_fld (pv 5) rfl) (pa_cons (pe_ifExp (pt_val (pe_call (ok_is_token g) (hr.mono (by decide)) rfl g.f_is_token.m g.f_is_token.F.kp g.f_is_token.b .nil pass0 (pa_cons (pe_fld (pv 5) rfl) pa_nil))) (pv 3) (pe_un un_neg pe_int)) pa_nil))))) pss_nil)
          (pss_one (ps_if (pt_val (pe_call (ok_is_token g) (hr.mono (by decide)) rfl g.f_is_token.m g.f_is_token.F.kp g.f_is_token.b .nil pass0 (pa_cons (pe_fld (pv 5) rfl) pa_nil))) (pss_one (ps_aug (i:=3) sc_kind_and_number.nd rfl (Or.inl rfl) pe_int ip_add)) pss_nil)))))))
      (pss_one (ps_ret (pe_tup (pa_cons (pe_gint rfl g.g_TEXT_END) (pa_cons (pe_un un_neg pe_int) pa_nil)))))))),?_⟩
    obtain ⟨dx,ho⟩:=C.obj
    refine ⟨_,rfl,rf_Cut_stretches g ho ⟨sl,rfl,⟨_,SqL.of C.lst⟩,for_list (K:=K) (a:=sl) (xs:=as.map V.ref) (fun i σ H'=>∃ (e k:Nat) (v1 v2:Option V),σ=[some (.ref x),some (.int (n:Int)),some (.int (e:Int)),some (.int (k:Int)),v1,v2]∧H'=H∧e ≤ n∧Cm.kindNum n 0 ss.flatten=Cm.kindNum (n - e) k (ss.drop i).flatten) ?_ ?_ ?_ ?_⟩⟩
    · exact ⟨0,0,none,none,rfl,rfl,Nat.zero_le _,rfl⟩
    · rintro i σ H' _ ⟨e,k,v1,v2,rfl,rfl,_⟩
      exact SqL.of C.lst
    · rintro i y σ H' hi ⟨e,k,v1,v2,rfl,rfl,he,ek⟩
      obtain ⟨a,ea,rfl⟩:=ref_get hi
      obtain ⟨z,ez,dz,lz,az,hz0,hz,hlz,haz⟩:=C.sts.get ea
      rw [Cm.drop_cons ez,List.flatten_cons] at ek
      refine ⟨_,rfl,rf_Stretch_pieces g hz ⟨lz,rfl,⟨_,SqL.of hlz⟩,for_list (K:=K) (a:=lz) (xs:=az.map V.ref) (fun j σ H2=>∃ (e k:Nat) (v2:Option V),σ=[some (.ref x),some (.int (n:Int)),some (.int (e:Int)),some (.int (k:Int)),some (.ref a),v2]∧H2=H'∧e ≤ n∧Cm.kindNum n 0 ss.flatten=Cm.kindNum (n - e) k (z.drop j ++ (ss.drop (i + 1)).flatten)) ?_ ?_ ?_ ?_⟩⟩
      · exact ⟨e,k,v2,rfl,rfl,he,ek⟩
      · rintro j σ H2 _ ⟨e,k,v2,rfl,rfl,_⟩
        exact SqL.of hlz
      · rintro j y σ H2 hj ⟨e2,k2,v3,rfl,rfl,he2,ek2⟩
        obtain ⟨b,eb,rfl⟩:=ref_get hj
        obtain ⟨pc,epc,dp,hp⟩:=haz.get eb
        rw [Cm.drop_cons epc,List.cons_append] at ek2
        refine ⟨_,rfl,_,rfl,rf_Piece_size g hp ⟨_,_,rfl,rfl,?_⟩⟩
        refine ⟨_,rfl,_,rfl,_,_,rfl,rfl,_,rfl,ite2 (fun h=>?_) (fun h=>?_)⟩
        · have hlt:(n:Int) < (e2:Int) + (pc.text.length:Int):=of_decide_eq_true h
          have hk:=Cm.kindNum_here (k:=k2) (l:=z.drop (j + 1) ++ (ss.drop (i + 1)).flatten) (show n - e2 < pc.text.length by omega)
          rw [hk] at ek2
          refine ⟨_,rfl,rf_Piece_kind g hp ⟨_,rfl,rf_Piece_kind g hp ⟨_,rfl,_,rfl,?_⟩⟩⟩
          rw [Cm.kindNo_tok]
          refine ite2 (fun ht=>⟨_,rfl,(by show 2 ≤ sizeLine; decide),fun p2 hp2=>?_⟩) (fun ht=>⟨_,rfl,(by show 2 ≤ sizeLine; decide),fun p2 hp2=>?_⟩)
          · rw [if_pos ht] at ek2
            refine q p2 _ (same_new hp2) ?_
            rw [upd_same,ek2]
          · rw [if_neg ht] at ek2
            refine q p2 _ (same_new hp2) ?_
            rw [upd_same,ek2]
        · have hlt:¬ (n:Int) < (e2:Int) + (pc.text.length:Int):=fun z=>h (decide_eq_true z)
          have hk:=Cm.kindNum_next (k:=k2) (l:=z.drop (j + 1) ++ (ss.drop (i + 1)).flatten) (show ¬ n - e2 < pc.text.length by omega)
          rw [hk] at ek2
          refine ⟨_,rfl,rf_Piece_kind g hp ⟨_,rfl,_,rfl,?_⟩⟩
          rw [Cm.kindNo_tok]
          refine ite2 (fun ht=>⟨_,rfl,_,_,rfl,rfl,?_⟩) (fun ht=>?_)
          · rw [if_pos ht] at ek2
            exact ⟨e2 + pc.text.length,k2 + 1,_,rfl,rfl,by omega,by rw [ek2,Nat.sub_sub]⟩
          · rw [if_neg ht] at ek2
            exact ⟨e2 + pc.text.length,k2,_,rfl,rfl,by omega,by rw [ek2,Nat.sub_sub]⟩
      · rintro σ H2 ⟨e2,k2,v3,rfl,rfl,he2,ek2⟩
        rw [List.length_map,haz.1,List.drop_length,List.nil_append] at ek2
        exact ⟨e2,k2,_,_,rfl,rfl,he2,ek2⟩
    · rintro σ H' ⟨e,k,v1,v2,rfl,rfl,he,ek⟩
      rw [List.length_map,C.sts.1,List.drop_length,List.flatten_nil,Cm.kindNum_nil] at ek
      refine ⟨_,rfl,(by show 2 ≤ sizeLine; decide),fun p2 hp2=>q p2 _ (same_new hp2) ?_⟩
      rw [upd_same,ek]
end
end Cb
end
section
set_option maxRecDepth 100000
set_option maxHeartbeats 4000000
namespace Cb
open PySem PySem.Spec PyProof.Rows L2
open Cm (bi)
section
variable {P:Program}{w:World}{K:PySem.W.Frag}{mg:Str->Option Value}{base:Heap}
def CommentAt (g:Pg K mg) (N:Addr->Prop) (H:Hp) (x:Addr) (l:Vafmta.Lead):Prop:=∃ dx r,N r∧H x=some (.ins g.Comment.C dx (fComment r (Vafmta.truth l.gap)))∧TextAt H r l.text
def BehindAt (g:Pg K mg) (N:Addr->Prop) (H:Hp) (v:V) (o:Option Vafmta.Bytes):Prop:=(o=none∧v = .non) ∨ ∃ x l,v = .ref x∧o=some l.text∧CommentAt g N H x l
def TokenAt (g:Pg K mg) (N:Addr->Prop) (H:Hp) (x:Addr) (t:Vafmta.Token):Prop:=∃ dx r ll as bh,N r∧N ll∧H x=some (.ins g.Token.C dx (fToken (Vafmta.kindNo t.kind) (t.start:Int) r (Vafmta.truth t.gap) ll bh))∧TextAt H r t.text ∧
  H ll=some (.lst (as.map V.ref))∧Ats (CommentAt g N H) as t.leads∧BehindAt g N H bh t.behind
structure Tr (N N':Addr->Prop) (H H':Hp):Prop where
  ins:∀ a C dx fs,H a=some (.ins C dx fs)->fs.length=2->H' a=some (.ins C dx fs)
  lst:∀ a xs,H a=some (.lst xs)->N a->H' a=some (.lst xs)∧N' a
theorem Tr.of {N:Addr->Prop}{H H':Hp} (s:Same H H'):Tr N N H H':=⟨fun _ _ _ _ h _=>s _ _ h,fun _ _ h n=>⟨s _ _ h,n⟩⟩
theorem CommentAt.tr {g:Pg K mg}{N N':Addr->Prop}{H H':Hp}{x:Addr}{l:Vafmta.Lead} (h:CommentAt g N H x l) (t:Tr N N' H H'):CommentAt g N' H' x l:=by
  obtain ⟨dx,r,n,h1,h2⟩:=h
  exact ⟨dx,r,(t.lst _ _ h2 n).2,t.ins _ _ _ _ h1 rfl,(t.lst _ _ h2 n).1⟩
theorem BehindAt.tr {g:Pg K mg}{N N':Addr->Prop}{H H':Hp}{v:V}{o:Option Vafmta.Bytes} (h:BehindAt g N H v o) (t:Tr N N' H H'):BehindAt g N' H' v o:=by
  rcases h with h | ⟨x,l,h1,h2,h3⟩
  · exact .inl h
  · exact .inr ⟨x,l,h1,h2,h3.tr t⟩
theorem TokenAt.tr {g:Pg K mg}{N N':Addr->Prop}{H H':Hp}{x:Addr}{k:Vafmta.Token} (h:TokenAt g N H x k) (t:Tr N N' H H') (kx:∀ o,H x=some o->H' x=some o):TokenAt g N' H' x k:=by
  obtain ⟨dx,r,ll,as,bh,n1,n2,h1,h2,h3,h4,h5⟩:=h
  exact ⟨dx,r,ll,as,bh,(t.lst _ _ h2 n1).2,(t.lst _ _ h3 n2).2,kx _ h1,(t.lst _ _ h2 n1).1,(t.lst _ _ h3 n2).1,h4.imp fun a l z=>z.tr t,h5.tr t⟩
theorem TokenAt.same {g:Pg K mg}{N:Addr->Prop}{H H':Hp}{x:Addr}{k:Vafmta.Token} (h:TokenAt g N H x k) (s:Same H H'):TokenAt g N H' x k:=h.tr (.of s) fun o e=>s _ _ e
theorem CommentAt.same {g:Pg K mg}{N:Addr->Prop}{H H':Hp}{x:Addr}{k:Vafmta.Lead} (h:CommentAt g N H x k) (s:Same H H'):CommentAt g N H' x k:=h.tr (.of s)
def NN (tl wl:Addr):Addr->Prop:=fun a=>a ≠ tl∧a ≠ wl
structure ThSt (g:Pg K mg) (H0 H:Hp) (th tl wl:Addr) (ats aws:List Addr) (s:Vafmta.Run):Prop where
  base:Same H0 H
  obj:∃ dx,H th=some (.ins g.Things.C dx (fThings tl wl (s.ends:Int) s.any))
  n0:H0 th=none∧H0 tl=none∧H0 wl=none
  ne:tl ≠ wl
  ltl:H tl=some (.lst (ats.map V.ref))
  lwl:H wl=some (.lst (aws.map V.ref))
  toks:Ats (TokenAt g (NN tl wl) H) ats s.tokens.reverse
  wait:Ats (CommentAt g (NN tl wl) H) aws s.leads.reverse
  nd:ats.Nodup
  nt:∀ a ∈ ats,H0 a=none
  few:s.tokens.length ≤ s.place∧s.leads.length ≤ s.place
theorem ThSt.same {g:Pg K mg}{H0 H H':Hp}{th tl wl:Addr}{ats aws:List Addr}{s:Vafmta.Run} (h:ThSt g H0 H th tl wl ats aws s) (e:Same H H'):ThSt g H0 H' th tl wl ats aws s:=by
  obtain ⟨dx,ho⟩:=h.obj
  exact ⟨h.base.trans e,⟨dx,e _ _ ho⟩,h.n0,h.ne,e _ _ h.ltl,e _ _ h.lwl,h.toks.imp fun a t z=>z.same e,h.wait.imp fun a t z=>z.same e,h.nd,h.nt,h.few⟩
def sp_Comment_init (g:Pg K mg):Sp:=fun vs H Q _=>∃ (p dx r:Addr) (gp:Int),vs=[.ref p,.ref r,.int gp]∧H p=some (.ins g.Comment.C dx [])∧Q .non (upd H p (.ins g.Comment.C dx (fComment r gp)))
theorem ok_Comment_init (g:Pg K mg):FnOk P w K mg base CX0 1 g.Comment.a g.Comment.fd ["self","row","gap"] (sp_Comment_init g):=by
  refine g.Comment.F.ok sc_Comment_init (fun vs H Q E h=>?_) (fun cdv A outer s H vs Q E hr h=>?_)
  · obtain ⟨p,dx,r,gp,rfl,_⟩:=h; rfl
  · obtain ⟨p,dx,r,gp,rfl,hp,q⟩:=h
    refine ⟨_,(pss_cons (ps_fld (pv 0) (pv 1) rfl)
      (pss_one (ps_fld (pv 0) (pv 2) rfl))),?_⟩
    refine ⟨_,rfl,_,rfl,fsto hp g.Comment.cl (g.Comment.na _ (by decide +kernel)) (by simp) (pi_Comment_row (x1:=gp)) ?_⟩
    refine ⟨_,rfl,_,rfl,fsto upd_same g.Comment.cl (g.Comment.na _ (by decide +kernel)) (by simp) pi_Comment_gap ?_⟩
    rw [upd_upd]
    exact q
theorem mk_Comment (g:Pg K mg) {r:Addr}{gp:Int}{H:Hp}{R:Addr->Hp->Prop}{E:XK} (h:∀ x H',H x=none->Same H H'->(∃ dx,H' x=some (.ins g.Comment.C dx (fComment r gp)))->R x H'):∀ x dx,H x=none->H dx=none->dx ≠ x →
    sp_Comment_init g (.ref x :: ([.ref r,.int gp] ++ [])) (upd (upd H dx (.own x)) x (.ins g.Comment.C dx [])) (fun v H2=>v = .non∧R x H2) E:=fun x dx nx nd ne =>
  ⟨x,dx,r,gp,rfl,upd_same,rfl,h x _ nx (by rw [upd_upd]; exact same_new2 nx nd) ⟨dx,upd_same⟩⟩
def sp_Token_init (g:Pg K mg):Sp:=fun vs H Q _=>∃ (p dx:Addr) (k b:Int) (r:Addr) (gp:Int) (ll:Addr),vs=[.ref p,.int k,.int b,.ref r,.int gp,.ref ll]∧H p=some (.ins g.Token.C dx [])∧Q .non (upd H p (.ins g.Token.C dx (fToken k b r gp ll .non)))
theorem ok_Token_init (g:Pg K mg):FnOk P w K mg base CX0 1 g.Token.a g.Token.fd ["self","kind","begin","row","gap","leading"] (sp_Token_init g):=by
  refine g.Token.F.ok sc_Token_init (fun vs H Q E h=>?_) (fun cdv A outer s H vs Q E hr h=>?_)
  · obtain ⟨p,dx,k,b,r,gp,ll,rfl,_⟩:=h; rfl
  · obtain ⟨p,dx,k,b,r,gp,ll,rfl,hp,q⟩:=h
    refine ⟨_,(pss_cons (ps_fld (pv 0) (pv 1) rfl)
      (pss_cons (ps_fld (pv 0) (pv 2) rfl)
      (pss_cons (ps_fld (pv 0) (pv 3) rfl)
      (pss_cons (ps_fld (pv 0) (pv 4) rfl)
      (pss_cons (ps_fld (pv 0) (pv 5) rfl)
      (pss_one (ps_fld (pv 0) pe_non rfl))))))),?_⟩
    refine ⟨_,rfl,_,rfl,fsto hp g.Token.cl (g.Token.na _ (by decide +kernel)) (by simp) (pi_Token_kind (x1:=b) (x2:=r) (x3:=gp) (x4:=ll) (x5:=.non)) ?_⟩
    refine ⟨_,rfl,_,rfl,fsto upd_same g.Token.cl (g.Token.na _ (by decide +kernel)) (by simp) (pi_Token_begin (x2:=r) (x3:=gp) (x4:=ll) (x5:=.non)) ?_⟩
    refine ⟨_,rfl,_,rfl,fsto upd_same g.Token.cl (g.Token.na _ (by decide +kernel)) (by simp) (pi_Token_row (x3:=gp) (x4:=ll) (x5:=.non)) ?_⟩
    refine ⟨_,rfl,_,rfl,fsto upd_same g.Token.cl (g.Token.na _ (by decide +kernel)) (by simp) (pi_Token_gap (x4:=ll) (x5:=.non)) ?_⟩
    refine ⟨_,rfl,_,rfl,fsto upd_same g.Token.cl (g.Token.na _ (by decide +kernel)) (by simp) (pi_Token_leading (x5:=.non)) ?_⟩
    refine ⟨_,rfl,fsto upd_same g.Token.cl (g.Token.na _ (by decide +kernel)) (by simp) pi_Token_behind ?_⟩
    rw [upd_upd,upd_upd,upd_upd,upd_upd,upd_upd]
    exact q
theorem mk_Token (g:Pg K mg) {k b:Int}{r:Addr}{gp:Int}{ll:Addr}{H:Hp}{R:Addr->Hp->Prop}{E:XK} (h:∀ x H',H x=none->Same H H'->(∃ dx,H' x=some (.ins g.Token.C dx (fToken k b r gp ll .non)))->R x H'):∀ x dx,H x=none->H dx=none->dx ≠ x →
    sp_Token_init g (.ref x :: ([.int k,.int b,.ref r,.int gp,.ref ll] ++ [])) (upd (upd H dx (.own x)) x (.ins g.Token.C dx [])) (fun v H2=>v = .non∧R x H2) E:=fun x dx nx nd ne =>
  ⟨x,dx,k,b,r,gp,ll,rfl,upd_same,rfl,h x _ nx (by rw [upd_upd]; exact same_new2 nx nd) ⟨dx,upd_same⟩⟩
def sp_Things_init (g:Pg K mg):Sp:=fun vs H Q _=>∃ (p dx:Addr),vs=[.ref p]∧H p=some (.ins g.Things.C dx [])∧∀ tl wl H',But p H H'->H tl=none->H wl=none->tl ≠ wl->H' tl=some (.lst [])->H' wl=some (.lst [])->H' p=some (.ins g.Things.C dx (fThings tl wl 0 false))->Q .non H'
theorem ok_Things_init (g:Pg K mg):FnOk P w K mg base CX0 1 g.Things.a g.Things.fd ["self"] (sp_Things_init g):=by
  refine g.Things.F.ok sc_Things_init (fun vs H Q E h=>?_) (fun cdv A outer s H vs Q E hr h=>?_)
  · obtain ⟨p,dx,rfl,_⟩:=h; rfl
  · obtain ⟨p,dx,rfl,hp,q⟩:=h
    refine ⟨_,(pss_cons (ps_fld (pv 0) (pe_lst pa_nil) rfl)
      (pss_cons (ps_fld (pv 0) (pe_lst pa_nil) rfl)
      (pss_cons (ps_fld (pv 0) pe_int rfl)
      (pss_one (ps_fld (pv 0) pe_bl rfl))))),?_⟩
    refine ⟨by decide,fun tl htl=>?_⟩
    have ptl:p ≠ tl:=ne_of_none hp htl
    refine ⟨_,rfl,fsto (by rw [upd_ne ptl]; exact hp) g.Things.cl (g.Things.na _ (by decide +kernel)) (by simp) (pi_Things_tokens (x1:=tl) (x2:=0) (x3:=false)) ?_⟩
    refine ⟨by decide,fun wl hwl=>?_⟩
    have pwl:p ≠ wl:=fun e=>by rw [← e,upd_same] at hwl; cases hwl
    rw [upd_ne (Ne.symm pwl)] at hwl
    have twl:tl ≠ wl:=fun e=>by rw [← e,upd_same] at hwl; cases hwl
    rw [upd_ne (Ne.symm twl)] at hwl
    refine ⟨_,rfl,fsto (by rw [upd_ne pwl]; exact upd_same) g.Things.cl (g.Things.na _ (by decide +kernel)) (by simp) (pi_Things_waiting (x2:=0) (x3:=false)) ?_⟩
    refine ⟨_,rfl,fsto upd_same g.Things.cl (g.Things.na _ (by decide +kernel)) (by simp) (pi_Things_line_ends (x3:=false)) ?_⟩
    refine ⟨_,rfl,fsto upd_same g.Things.cl (g.Things.na _ (by decide +kernel)) (by simp) pi_Things_begun ?_⟩
    rw [upd_upd,upd_upd]
    refine q tl wl _ ?_ htl hwl twl ?_ ?_ upd_same
    · intro b o hb hne
      rw [upd_ne hne,upd_ne (ne_of_none hb hwl),upd_ne hne,upd_ne (ne_of_none hb htl)]
      exact hb
    · rw [upd_ne (Ne.symm ptl),upd_ne twl,upd_ne (Ne.symm ptl)]
      exact upd_same
    · rw [upd_ne (Ne.symm pwl)]
      exact upd_same
theorem mk_Things (g:Pg K mg) {H:Hp}{R:Addr->Hp->Prop}{E:XK} (h:∀ th tl wl H',ThSt g H H' th tl wl [] [] ⟨0,0,false,[],[]⟩->R th H'):∀ x dx,H x=none->H dx=none->dx ≠ x →
    sp_Things_init g (.ref x :: ([] ++ [])) (upd (upd H dx (.own x)) x (.ins g.Things.C dx [])) (fun v H2=>v = .non∧R x H2) E:=fun x dx nx nd ne=>by
  have s1:Same H (upd (upd H dx (.own x)) x (.ins g.Things.C dx [])):=same_new2 nx nd
  refine ⟨x,dx,rfl,upd_same,fun tl wl H' b n1 n2 n3 h1 h2 h3=>⟨rfl,h x tl wl H' ⟨b.same s1 nx,⟨dx,h3⟩,⟨nx,s1.free n1,s1.free n2⟩,n3,h1,h2,.nil,.nil,List.nodup_nil,fun a z=>(by cases z),Nat.le_refl _,Nat.le_refl _⟩⟩⟩
def sp_Things_gap_here (g:Pg K mg):Sp:=fun vs H Q _=>∃ (th dx tl wl:Addr) (n:Nat) (b:Bool),vs=[.ref th]∧H th=some (.ins g.Things.C dx (fThings tl wl (n:Int) b))∧Q (.int (Vafmta.truth (b && decide (2 ≤ n)))) H
theorem ok_Things_gap_here (g:Pg K mg):FnOk P w K mg base CX0 1 g.m_Things_gap_here.a g.m_Things_gap_here.fd ["self"] (sp_Things_gap_here g):=by
  refine g.m_Things_gap_here.F.ok sc_Things_gap_here (fun vs H Q E h=>?_) (fun cdv A outer s H vs Q E hr h=>?_)
  · obtain ⟨th,dx,tl,wl,n,b,rfl,_⟩:=h; rfl
  · obtain ⟨th,dx,tl,wl,n,b,rfl,ho,q⟩:=h
    refine ⟨_,(pss_one (ps_ret (pe_ifExp (PW.pt (pw_and (pt_val (pe_fld (pv 0) rfl)) (pw_and1 (pt_cmpR op_ge (pe_fld (pv 0) rfl) pe_int (nomark _))))) pe_int pe_int))),?_⟩
    refine ⟨_,rfl,rf_Things_begun g ho ⟨_,rfl,?_⟩⟩
    cases b with
    | false =>
      refine iteF (iteF ?_)
      exact q
    | true =>
      refine iteT ⟨_,rfl,rf_Things_line_ends g ho ⟨_,_,rfl,rfl,_,rfl,ite2 (fun h=>?_) (fun h=>?_)⟩⟩
      · have:=of_decide_eq_true h
        have e:(true && decide (2 ≤ n))=true:=by rw [decide_eq_true (by omega)]; rfl
        rw [e] at q
        exact q
      · have hn:¬ (2:Int) ≤ (n:Int):=fun z=>h (decide_eq_true z)
        have e:(true && decide (2 ≤ n))=false:=by rw [decide_eq_false (by omega)]; rfl
        rw [e] at q
        exact q
def sp_Things_go_on (g:Pg K mg):Sp:=fun vs H Q _=>∃ (th dx tl wl:Addr) (n:Int) (b:Bool),vs=[.ref th]∧H th=some (.ins g.Things.C dx (fThings tl wl n b))∧Q .non (upd H th (.ins g.Things.C dx (fThings tl wl 0 true)))
theorem ok_Things_go_on (g:Pg K mg):FnOk P w K mg base CX0 1 g.m_Things_go_on.a g.m_Things_go_on.fd ["self"] (sp_Things_go_on g):=by
  refine g.m_Things_go_on.F.ok sc_Things_go_on (fun vs H Q E h=>?_) (fun cdv A outer s H vs Q E hr h=>?_)
  · obtain ⟨th,dx,tl,wl,n,b,rfl,_⟩:=h; rfl
  · obtain ⟨th,dx,tl,wl,n,b,rfl,ho,q⟩:=h
    refine ⟨_,(pss_cons (ps_fld (pv 0) pe_int rfl)
      (pss_one (ps_fld (pv 0) pe_bl rfl))),?_⟩
    refine ⟨_,rfl,rs_Things_line_ends g ho ?_⟩
    refine ⟨_,rfl,rs_Things_begun g upd_same ?_⟩
    rw [upd_upd]
    exact q
def sp_without_last_blanks : Sp:=fun vs H Q _=>∃ (a:Addr) (r:Vafmta.Bytes),vs=[.ref a]∧TextAt H a (Vafmta.HASH :: r)∧r.length ≤ 100000∧∀ p H',Same H H'->H p=none->TextAt H' p (Vafmta.trimmed (Vafmta.HASH :: r))->Q (.ref p) H'
theorem ok_without_last_blanks (g:Pg K mg):FnOk P w K mg base CX0 1 g.f_without_last_blanks.a g.f_without_last_blanks.fd ["row"] sp_without_last_blanks:=by
  refine g.f_without_last_blanks.F.ok sc_without_last_blanks (fun vs H Q E h=>?_) (fun cdv A outer s H vs Q E hr h=>?_)
  · obtain ⟨a,r,rfl,_⟩:=h; rfl
  · obtain ⟨a,r,rfl,ht,hl,q⟩:=h
    refine ⟨_,(pss_cons (ps_set (i:=1) sc_without_last_blanks.nd rfl (Or.inl rfl) (pe_callB call_len_seq (by rfl) g.n_len PySem.boot_len (pa_cons (pv 0) pa_nil)))
      (pss_cons (ps_while PassesOwn.never (pt_cmpR op_eq (pe_ix ix_list (pv 0) (pe_op op_sub (pv 1) pe_int) (fun _ _=>rfl)) (pe_gint rfl g.g_BLANK_BYTE) (nomark _)) (pss_one (ps_aug (i:=1) sc_without_last_blanks.nd rfl (Or.inl rfl) pe_int ip_sub)))
      (pss_one (ps_ret (pe_slice sl_list (pv 0) po_none (po_some (pv 1))))))),?_⟩
    refine ⟨_,rfl,_,_,rfl,.inl (SqL.of ht),?_⟩
    generalize hR:Vafmta.HASH :: r=R at ht q
    have h0:R[0]?=some Vafmta.HASH:=by rw [← hR]; rfl
    have hpos:1 ≤ R.length:=by rw [← hR]; simp
    refine ⟨fun m σ H'=>∃ e:Nat,m=e∧σ=[some (.ref a),some (.int ((e + 1:Nat):Int))]∧H'=H∧e + 1 ≤ R.length∧Vafmta.trimmed (R.take (e + 1))=Vafmta.trimmed R,⟨_,R.length - 1,rfl,?_,rfl,by omega,by rw [show R.length - 1 + 1=R.length by omega,List.take_length]⟩,?_⟩
    · rw [show R.length - 1 + 1=R.length by omega,bV_len]
      rfl
    rintro m σ H' ⟨e,rfl,rfl,rfl,he,et⟩
    obtain ⟨c,hc,_⟩:=Cm.drop_lt (t:=R) (n:=m) (by omega)
    have ek:((m + 1:Nat):Int) - 1=(m:Int):=by omega
    refine ⟨_,rfl,_,rfl,_,_,rfl,rfl,_,_,_,_,rfl,rfl,SqL.of ht,by rw [ek]; exact bV_at hc,rfl,_,rfl,ite2 (fun h=>?_) (fun h=>?_)⟩
    · have hb:c=Vafmta.BLANK:=byte_is (k:=32) (by decide) (int_eq h)
      obtain ⟨k,rfl⟩:∃ k,m=k + 1:=by
        cases m with
        | zero=>rw [h0] at hc; rw [← Option.some.inj hc] at hb; exact absurd hb (by decide)
        | succ k=>exact ⟨k,rfl⟩
      refine ⟨_,fun _ _ z=>z,?_⟩
      refine ⟨_,rfl,_,_,rfl,rfl,k,by omega,k,rfl,?_,rfl,by omega,?_⟩
      · show [some (V.ref a),some (V.int (((k + 1 + 1:Nat):Int) - 1))]=_
        rw [ek]
      · rw [← et]
        exact (Cm.trimmed_step (by rw [hc,hb])).symm
    · have hb:c ≠ Vafmta.BLANK:=byte_not (k:=32) (by decide) (int_ne h)
      refine ⟨_,rfl,_,rfl,_,rfl,a,_,rfl,SqL.of ht,fun p hp=>?_⟩
      rw [cut_left (by rw [bV_len]; omega),bV_take]
      refine q p _ (same_new hp) hp ?_
      rw [← et,Cm.trimmed_stop hc hb]
      exact upd_same
end
end Cb
end
section
set_option maxRecDepth 100000
set_option maxHeartbeats 4000000
namespace Cb
open PySem PySem.Spec PyProof.Rows L2
open Cm (bi)
theorem ins_ne {H:Hp}{a b C C' dx dx':Addr}{fs fs':List (Str × V)} (h:H a=some (.ins C dx fs)) (h':H b=some (.ins C' dx' fs')) (n:fs.length ≠ fs'.length):a ≠ b:=ne_of h h' fun e=>n (by injection e with e1 e2 e3; rw [e3])
theorem ins_lst {H:Hp}{a b C dx:Addr}{fs:List (Str × V)}{xs:List V} (h:H a=some (.ins C dx fs)) (h':H b=some (.lst xs)):a ≠ b:=ne_of h h' fun e=>by cases e
section
variable {P:Program}{w:World}{K:PySem.W.Frag}{mg:Str->Option Value}{base:Heap}
def sp_Things_take_token (g:Pg K mg):Sp:=fun vs H Q _=>∃ (H0:Hp) (th tl wl:Addr) (ats aws:List Addr) (s:Vafmta.Run) (p:Vafmta.Piece) (x dx r:Addr),vs=[.ref th,.ref x]∧ThSt g H0 H th tl wl ats aws s∧p.isToken=true ∧
  H x=some (.ins g.Token.C dx (fToken (Vafmta.kindNo p.kind) (s.place:Int) r (Vafmta.truth s.gap) wl .non))∧TextAt H r p.text∧NN tl wl r∧H0 x=none∧x ∉ ats∧1 ≤ p.text.length∧s.place ≤ 20000 ∧
  ∀ wl' ats' aws' H',ThSt g H0 H' th tl wl' ats' aws' (s.put p)->Q .non H'
theorem ok_Things_take_token (g:Pg K mg):FnOk P w K mg base CX0 2 g.m_Things_take_token.a g.m_Things_take_token.fd ["self","token"] (sp_Things_take_token g):=by
  refine g.m_Things_take_token.F.ok sc_Things_take_token (fun vs H Q E h=>?_) (fun cdv A outer s H vs Q E hr h=>?_)
  · obtain ⟨H0,th,tl,wl,ats,aws,s,p,x,dx,r,rfl,_⟩:=h; rfl
  · obtain ⟨H0,th,tl,wl,ats,aws,s,p,x,dx,r,rfl,T,htok,hx,hrt,hrn,nx0,hxa,hp1,hpl,q⟩:=h
    refine ⟨_,(pss_cons (ps_expr (pe_bm PySem.F.plainAttrs_list PySem.F.slot_list_append PySem.F.type_list_append mt_append (pe_fld (pv 0) rfl) (pa_cons (pv 1) pa_nil)))
      (pss_cons (ps_fld (pv 0) (pe_lst pa_nil) rfl)
      (pss_one (ps_expr (pe_meth0 (pv 0) g.Things.cl g.m_Things_go_on.m (ok_Things_go_on g) (hr.mono (by decide)) g.m_Things_go_on.b .nil pass0))))),?_⟩
    obtain ⟨dt,ho⟩:=T.obj
    have hlen:ats.length=s.tokens.length:=by rw [T.toks.1,List.length_reverse]
    have t_tl:th ≠ tl:=ins_lst ho T.ltl
    have x_tl:x ≠ tl:=ins_lst hx T.ltl
    have x_th:x ≠ th:=ins_ne hx ho (by simp [fThings,fToken])
    refine ⟨_,rfl,rf_Things_tokens g ho ⟨.inl ⟨rfl,_,SqL.of T.ltl⟩,_,rfl,tl,_,_,rfl,rfl,T.ltl,lim1 (k:=20000) (by rw [List.length_map,hlen]; have:=T.few; omega),?_⟩⟩
    refine ⟨by decide,fun v hv=>?_⟩
    have v_tl:v ≠ tl:=fun e=>by rw [e,upd_same] at hv; cases hv
    rw [upd_ne v_tl] at hv
    have v_th:th ≠ v:=ne_of_none ho hv
    refine ⟨_,rfl,rs_Things_waiting g (by rw [upd_ne v_th,upd_ne t_tl]; exact ho) ?_⟩
    refine ⟨_,rfl,rm_Things_go_on g upd_same ⟨th,dt,tl,v,_,_,rfl,upd_same,?_⟩⟩
    rw [upd_upd]
    generalize e4:upd (upd (upd H tl (.lst (ats.map V.ref ++ [.ref x]))) v (.lst [])) th (.ins g.Things.C dt (fThings tl v 0 true))=H4
    have at4:∀ b,b ≠ tl->b ≠ v->b ≠ th->H4 b=H b:=fun b h1 h2 h3=>by rw [← e4,upd_ne h3,upd_ne h2,upd_ne h1]
    have keep:∀ b o,H b=some o->b ≠ tl->b ≠ th->H4 b=some o:=fun b o hb h1 h2=>by rw [at4 b h1 (ne_of_none hb hv) h2]; exact hb
    have tr:Tr (NN tl wl) (NN tl v) H H4:=⟨fun a C d fs h1 h2=>keep a _ h1 (ins_lst h1 T.ltl) (ins_ne h1 ho (by rw [h2]; simp [fThings,fToken])),fun a xs h1 h2=>⟨keep a _ h1 h2.1 (Ne.symm (ins_lst ho h1)),h2.1,ne_of_none h1 hv⟩⟩
    have hv0:H0 v=none:=T.base.free hv
    refine q v (ats ++ [x]) [] H4 ?_
    rw [MC.put_token htok]
    refine ⟨fun b o hb=>keep b o (T.base b o hb) (ne_of_none hb T.n0.2.1) (ne_of_none hb T.n0.1),⟨dt,by rw [← e4]; exact upd_same⟩,⟨T.n0.1,T.n0.2.1,hv0⟩,Ne.symm v_tl,?_,?_,?_,.nil,?_,?_,?_⟩
    · rw [← e4,upd_ne (Ne.symm t_tl),upd_ne (Ne.symm v_tl),upd_same,List.map_append]
      rfl
    · rw [← e4,upd_ne (Ne.symm v_th)]
      exact upd_same
    · show Ats _ _ (_ :: s.tokens).reverse
      rw [List.reverse_cons]
      refine Ats.snoc ?_ ?_
      · refine ⟨T.toks.1,fun i a k h1 h2=>?_⟩
        have z:=T.toks.2 i a k h1 h2
        refine z.tr tr fun o ha=>?_
        obtain ⟨da,ra,la,aa,ba,_,_,za,_⟩:=z
        exact keep a o ha (ins_lst za T.ltl) (ins_ne za ho (by simp [fThings,fToken]))
      · refine ⟨dx,r,wl,aws,.non,⟨hrn.1,ne_of_none hrt hv⟩,⟨Ne.symm T.ne,ne_of_none T.lwl hv⟩,keep x _ hx x_tl x_th,(tr.lst _ _ hrt hrn).1,keep wl _ T.lwl (Ne.symm T.ne) (Ne.symm (ins_lst ho T.lwl)),T.wait.imp fun a l z=>z.tr tr,.inl ⟨rfl,rfl⟩⟩
    · exact nd_snoc T.nd hxa
    · intro a ha
      rcases List.mem_append.mp ha with z | z
      · exact T.nt a z
      · rw [List.mem_singleton.mp z]; exact nx0
    · have:=T.few
      show (_ :: s.tokens).length ≤ s.place + p.text.length∧([]:List Vafmta.Lead).length ≤ s.place + p.text.length
      simp
      omega
def sp_Things_take_comment (g:Pg K mg):Sp:=fun vs H Q _=>∃ (H0:Hp) (th tl wl:Addr) (ats aws:List Addr) (s:Vafmta.Run) (p:Vafmta.Piece) (l:List Vafmta.Piece) (x:Addr),vs=[.ref th,.ref x]∧ThSt g H0 H th tl wl ats aws s∧p.kind = .comment∧MC.Gen p∧MC.RInv s (p :: l) ∧
  CommentAt g (NN tl wl) H x ⟨s.gap,Vafmta.trimmed p.text⟩∧s.place ≤ 20000∧∀ ats' aws' H',ThSt g H0 H' th tl wl ats' aws' (s.put p)->Q .non H'
theorem ok_Things_take_comment (g:Pg K mg):FnOk P w K mg base CX0 2 g.m_Things_take_comment.a g.m_Things_take_comment.fd ["self","comment"] (sp_Things_take_comment g):=by
  refine g.m_Things_take_comment.F.ok sc_Things_take_comment (fun vs H Q E h=>?_) (fun cdv A outer s H vs Q E hr h=>?_)
  · obtain ⟨H0,th,tl,wl,ats,aws,s,p,l,x,rfl,_⟩:=h; rfl
  · obtain ⟨H0,th,tl,wl,ats,aws,s,p,l,x,rfl,T,hk,hg,R,hx,hpl,q⟩:=h
    refine ⟨_,(pss_cons (ps_if (PW.pt (pw_and (pt_val (pe_fld (pv 0) rfl)) (pw_and1 (pt_cmpR op_eq (pe_fld (pv 0) rfl) pe_int (nomark _))))) (pss_one (ps_fld (pe_ix ix_list (pe_fld (pv 0) rfl) (pe_un un_neg pe_int) (fun _ _=>rfl)) (pv 1) rfl)) (pss_one (ps_expr (pe_bm PySem.F.plainAttrs_list PySem.F.slot_list_append PySem.F.type_list_append mt_append (pe_fld (pv 0) rfl) (pa_cons (pv 1) pa_nil)))))
      (pss_one (ps_expr (pe_meth0 (pv 0) g.Things.cl g.m_Things_go_on.m (ok_Things_go_on g) (hr.mono (by decide)) g.m_Things_go_on.b .nil pass0)))),?_⟩
    obtain ⟨dt,ho⟩:=T.obj
    obtain ⟨dxx,rx,nrx,hox,htx⟩:=id hx
    have hp1:=Cm.gen_pos hg
    have lead:¬ (s.any=true∧s.ends=0)->tSeq (tDrop (tBM K "list" rAppend (tFld K (tVar 0) "waiting") (tCons (tVar 1) tNil))) (tDrop (tMeth g.Things.C "go_on" (sp_Things_go_on g) [] E0 (tVar 0) tNil)) { nx:=fun _ H'=>Q .non H',rt:=Q } [some (.ref th),some (.ref x)] H:=by
      intro hno
      have hlen:aws.length=s.leads.length:=by rw [T.wait.1,List.length_reverse]
      refine ⟨_,rfl,rf_Things_waiting g ho ⟨.inl ⟨rfl,_,SqL.of T.lwl⟩,_,rfl,wl,_,_,rfl,rfl,T.lwl,lim1 (k:=20000) (by rw [List.length_map,hlen]; have:=T.few; omega),?_⟩⟩
      have t_wl:th ≠ wl:=ins_lst ho T.lwl
      have ho2:(upd H wl (.lst (aws.map V.ref ++ [.ref x]))) th=some (.ins g.Things.C dt (fThings tl wl (s.ends:Int) s.any)):=by rw [upd_ne t_wl]; exact ho
      refine ⟨_,rfl,rm_Things_go_on g ho2 ⟨th,dt,tl,wl,_,_,rfl,ho2,?_⟩⟩
      generalize e4:upd (upd H wl (.lst (aws.map V.ref ++ [.ref x]))) th (.ins g.Things.C dt (fThings tl wl 0 true))=H4
      have keep:∀ b o,H b=some o->b ≠ wl->b ≠ th->H4 b=some o:=fun b o hb h1 h2=>by rw [← e4,upd_ne h2,upd_ne h1]; exact hb
      have tr:Tr (NN tl wl) (NN tl wl) H H4:=⟨fun a C d fs h1 h2=>keep a _ h1 (ins_lst h1 T.lwl) (ins_ne h1 ho (by rw [h2]; simp [fThings,fToken])),fun a xs h1 h2=>⟨keep a _ h1 h2.2 (Ne.symm (ins_lst ho h1)),h2⟩⟩
      refine q ats (aws ++ [x]) H4 ?_
      rw [MC.put_lead (l:=[]) ⟨R.none,fun h1 h2=>absurd ⟨h1,h2⟩ hno⟩ hk hno]
      refine ⟨fun b o hb=>keep b o (T.base b o hb) (ne_of_none hb T.n0.2.2) (ne_of_none hb T.n0.1),⟨dt,by rw [← e4]; exact upd_same⟩,T.n0,T.ne,keep tl _ T.ltl T.ne (Ne.symm (ins_lst ho T.ltl)),?_,?_,?_,T.nd,T.nt,?_⟩
      · rw [← e4,upd_ne (Ne.symm t_wl),upd_same,List.map_append]
        rfl
      · refine ⟨T.toks.1,fun i a k h1 h2=>?_⟩
        have z:=T.toks.2 i a k h1 h2
        refine z.tr tr fun o ha=>?_
        obtain ⟨da,ra,la,aa,ba,_,_,za,_⟩:=z
        exact keep a o ha (ins_lst za T.lwl) (ins_ne za ho (by simp [fThings,fToken]))
      · show Ats _ _ (_ :: s.leads).reverse
        rw [List.reverse_cons]
        exact (T.wait.imp fun a l z=>z.tr tr).snoc (hx.tr tr)
      · have:=T.few
        show s.tokens.length ≤ s.place + p.text.length∧(_ :: s.leads).length ≤ s.place + p.text.length
        simp
        omega
    refine ⟨_,rfl,rf_Things_begun g ho ⟨_,rfl,?_⟩⟩
    cases hany:s.any with
    | false =>
      refine iteF (iteF ?_)
      have:=lead (by rw [hany]; simp)
      exact this
    | true =>
      refine iteT ⟨_,rfl,rf_Things_line_ends g ho ⟨rfl,_,rfl,ite2 (fun h=>?_) (fun h=>?_)⟩⟩
      · have hends:s.ends=0:=by have:=int_eq h; omega
        obtain ⟨k,r,et,el,ep⟩:=MC.put_behind R hg hk hany hends
        have eat:∃ a0 y,ats=a0 ++ [y]:=by
          have hne:ats ≠ []:=fun e=>by have:=T.toks.1; rw [e,List.length_reverse,et] at this; simp at this
          exact ⟨_,_,(List.dropLast_concat_getLast hne).symm⟩
        obtain ⟨a0,y,ea⟩:=eat
        have htr:s.tokens.reverse=r.reverse ++ [k]:=by rw [et,List.reverse_cons]
        have hl0:a0.length=r.length:=by
          have:=T.toks.1
          rw [ea,htr,List.length_append,List.length_append,List.length_reverse] at this
          simp at this
          exact this
        have hky:TokenAt g (NN tl wl) H y k:=T.toks.2 a0.length y k (by rw [ea]; simp) (by rw [htr,List.getElem?_append_right (by rw [List.length_reverse]; omega),List.length_reverse,hl0]; simp)
        obtain ⟨dy,ry,ly,ay,bh,n1,n2,hy,hty,hly,hay,hbh⟩:=hky
        refine ⟨_,rfl,_,rfl,rf_Things_tokens g ho ⟨_,rfl,tl,_,_,V.ref y,rfl,rfl,SqL.of T.ltl,?_,rs_Token_behind (y:=V.ref x) g hy ?_⟩⟩
        · rw [ea,List.map_append]
          exact atI_last _ _
        have y_th:th ≠ y:=ins_ne ho hy (by simp [fThings,fToken])
        have ho2:(upd H y (.ins g.Token.C dy (fToken (Vafmta.kindNo k.kind) (k.start:Int) ry (Vafmta.truth k.gap) ly (.ref x)))) th=some (.ins g.Things.C dt (fThings tl wl (s.ends:Int) s.any)):=by rw [upd_ne y_th]; exact ho
        refine ⟨_,rfl,rm_Things_go_on g ho2 ⟨th,dt,tl,wl,_,_,rfl,ho2,?_⟩⟩
        generalize e4:upd (upd H y (.ins g.Token.C dy (fToken (Vafmta.kindNo k.kind) (k.start:Int) ry (Vafmta.truth k.gap) ly (.ref x)))) th (.ins g.Things.C dt (fThings tl wl 0 true))=H4
        have keep:∀ b o,H b=some o->b ≠ y->b ≠ th->H4 b=some o:=fun b o hb h1 h2=>by rw [← e4,upd_ne h2,upd_ne h1]; exact hb
        have tr:Tr (NN tl wl) (NN tl wl) H H4:=⟨fun a C d fs h1 h2=>keep a _ h1 (ins_ne h1 hy (by rw [h2]; simp [fThings,fToken])) (ins_ne h1 ho (by rw [h2]; simp [fThings,fToken])),fun a xs h1 h2=>⟨keep a _ h1 (Ne.symm (ins_lst hy h1)) (Ne.symm (ins_lst ho h1)),h2⟩⟩
        have y0:H0 y=none:=T.nt y (by rw [ea]; simp)
        refine q ats aws H4 ?_
        rw [ep]
        refine ⟨fun b o hb=>keep b o (T.base b o hb) (ne_of_none hb y0) (ne_of_none hb T.n0.1),⟨dt,?_⟩,T.n0,T.ne,(keep tl _ T.ltl (Ne.symm (ins_lst hy T.ltl)) (Ne.symm (ins_lst ho T.ltl))),(keep wl _ T.lwl (Ne.symm (ins_lst hy T.lwl)) (Ne.symm (ins_lst ho T.lwl))),?_,T.wait.imp fun a l z=>z.tr tr,T.nd,T.nt,?_⟩
        · rw [← e4,upd_same,hends,hany]
          rfl
        · show Ats _ _ (_ :: r).reverse
          rw [List.reverse_cons,ea]
          refine Ats.snoc ⟨by rw [List.length_reverse]; exact hl0,fun i a kk h1 h2=>?_⟩ ?_
          · have hi:=(List.getElem?_eq_some_iff.mp h1).1
            have z:=T.toks.2 i a kk (by rw [ea,List.getElem?_append_left hi]; exact h1) (by rw [htr,List.getElem?_append_left (by rw [List.length_reverse]; omega)]; exact h2)
            have hay:a ≠ y:=fun e=>by
              have nd:=T.nd
              rw [ea] at nd
              have:=(List.nodup_append.mp nd).2.2 a (List.mem_of_getElem? h1) y (by simp)
              exact this e
            refine z.tr tr fun o ha=>?_
            obtain ⟨da,ra,la,aa,ba,_,_,za,_⟩:=z
            exact keep a o ha hay (ins_ne za ho (by simp [fThings,fToken]))
          · exact ⟨dy,ry,ly,ay,.ref x,n1,n2,by rw [← e4,upd_ne (Ne.symm y_th)]; exact upd_same,(tr.lst _ _ hty n1).1,(tr.lst _ _ hly n2).1,hay.imp fun a l z=>z.tr tr,.inr ⟨x,_,rfl,rfl,hx.tr tr⟩⟩
        · have:=T.few
          rw [et] at this
          show (_ :: r).length ≤ s.place + p.text.length∧s.leads.length ≤ s.place + p.text.length
          simp at this ⊢
          omega
      · have hends:s.ends ≠ 0:=fun e=>h (by rw [e]; rfl)
        have:=lead (fun z=>hends z.2)
        exact this
def sp_Things_take (g:Pg K mg):Sp:=fun vs H Q _=>∃ (H0:Hp) (th tl wl:Addr) (ats aws:List Addr) (s:Vafmta.Run) (p:Vafmta.Piece) (l:List Vafmta.Piece) (pa ta:Addr) (t:Vafmta.Bytes),vs=[.ref th,.ref pa,.ref ta,.int (s.place:Int)]∧ThSt g H0 H th tl wl ats aws s∧PieceAt g H0 pa p∧TextAt H0 ta t ∧
  (t.drop s.place).take p.text.length=p.text∧s.place + p.text.length ≤ t.length∧t.length ≤ 20000∧MC.Gen p∧MC.RInv s (p :: l)∧∀ wl' ats' aws' H',ThSt g H0 H' th tl wl' ats' aws' (s.put p)->Q .non H'
theorem ok_Things_take (g:Pg K mg):FnOk P w K mg base CX0 3 g.m_Things_take.a g.m_Things_take.fd ["self","piece","text","place"] (sp_Things_take g):=by
  refine g.m_Things_take.F.ok sc_Things_take (fun vs H Q E h=>?_) (fun cdv A outer s H vs Q E hr h=>?_)
  · obtain ⟨H0,th,tl,wl,ats,aws,s,p,l,pa,ta,t,rfl,_⟩:=h; rfl
  · obtain ⟨H0,th,tl,wl,ats,aws,s,p,l,pa,ta,t,rfl,T,hpa,hta,hpt,hpl,htl,hg,R,q⟩:=h
    refine ⟨_,(pss_cons (ps_set (i:=4) sc_Things_take.nd rfl (Or.inl rfl) (pe_slice sl_list (pv 2) (po_some (pv 3)) (po_some (pe_op op_add (pv 3) (pe_fld (pv 1) rfl)))))
      (pss_one (ps_if (pt_cmpR op_eq (pe_fld (pv 1) rfl) (pe_gint rfl g.g_LINE_END) (nomark _)) (pss_one (ps_fldaug (pv 0) pe_int in_add)) (pss_one (ps_if (pt_cmpR op_eq (pe_fld (pv 1) rfl) (pe_gint rfl g.g_COMMENT) (nomark _)) (pss_one (ps_expr (pe_meth (pv 0) g.Things.cl g.m_Things_take_comment.m (ok_Things_take_comment g) (hr.mono (by decide)) g.m_Things_take_comment.b .nil pass0 (pa_cons (pe_make g.Comment.mk1 (ok_Comment_init g) (hr.mono (by decide)) rfl g.Comment.mg g.Comment.b .nil pass0 (pa_cons (pe_call (ok_without_last_blanks g) (hr.mono (by decide)) rfl g.f_without_last_blanks.m g.f_without_last_blanks.F.kp g.f_without_last_blanks.b .nil pass0 (pa_cons (pv 4) pa_nil)) (pa_cons (pe_meth0 (pv 0) g.Things.cl g.m_Things_gap_here.m (ok_Things_gap_here g) (hr.mono (by decide)) g.m_Things_gap_here.b .nil pass0) pa_nil))) pa_nil)))) (pss_one (ps_if (pt_val (pe_call (ok_is_token g) (hr.mono (by decide)) rfl g.f_is_token.m g.f_is_token.F.kp g.f_is_token.b .nil pass0 (pa_cons (pe_fld (pv 1) rfl) pa_nil))) (pss_one (ps_expr (pe_meth (pv 0) g.Things.cl g.m_Things_take_token.m (ok_Things_take_token g) (hr.mono (by decide)) g.m_Things_take_token.b .nil pass0 (pa_cons (pe_make g.Token.mk1 (ok_Token_init g) (hr.mono (by decide)) rfl g.Token.mg g.Token.b .nil pass0 (pa_cons (pe_fld (pv 1) rfl) (pa_cons (pv 3) (pa_cons (pv 4) (pa_cons (pe_meth0 (pv 0) g.Things.cl g.m_Things_gap_here.m (ok_Things_gap_here g) (hr.mono (by decide)) g.m_Things_gap_here.b .nil pass0) (pa_cons (pe_fld (pv 0) rfl) pa_nil)))))) pa_nil)))) pss_nil))))))),?_⟩
    obtain ⟨dp,hp0⟩:=id hpa
    have hp:H pa=some (.ins g.Piece.C dp (fPiece (Vafmta.kindNo p.kind) (p.text.length:Int))):=T.base _ _ hp0
    refine ⟨_,rfl,_,rfl,_,rfl,_,rfl,_,rfl,rf_Piece_size g hp ⟨_,_,rfl,rfl,_,rfl,ta,_,rfl,SqL.of (T.base _ _ hta),fun pr hpr=>?_⟩⟩
    have ecut:cutV (bV t) (some (s.place:Int)) (some ((s.place:Int) + (p.text.length:Int)))=bV p.text:=by
      have:=cut_mid (xs:=bV t) (a:=s.place) (b:=s.place + p.text.length) (by omega) (by rw [bV_len]; exact hpl)
      rw [bV_drop,bV_take,show s.place + p.text.length - s.place=p.text.length by omega,hpt] at this
      exact this
    generalize e1:upd H pr (.lst (cutV (bV t) (some (s.place:Int)) (some ((s.place:Int) + (p.text.length:Int)))))=H1
    have s1:Same H H1:=by rw [← e1]; exact same_new hpr
    have hr1:TextAt H1 pr p.text:=by rw [← e1,ecut]; exact upd_same
    have T1:=T.same s1
    obtain ⟨dt,ho⟩:=T1.obj
    have hp1:=s1 _ _ hp
    have r_tl:pr ≠ tl:=Ne.symm (ne_of_none T.ltl hpr)
    have r_wl:pr ≠ wl:=Ne.symm (ne_of_none T.lwl hpr)
    refine ⟨_,rfl,rf_Piece_kind g hp1 ⟨rfl,_,rfl,ite2 (fun h=>?_) (fun h=>?_)⟩⟩
    · have hk:p.kind = .line:=Cm.kindNo_inj (int_eq h)
      refine ⟨_,rfl,th,_,dt,_,_,rfl,ho,g.Things.cl,g.Things.na _ (by decide +kernel),lk_Things_line_ends,_,_,rfl,rfl,dt,_,ho,(by show 4 < 1000; decide),?_⟩
      rw [pf_Things_line_ends]
      have keep:∀ b o,H1 b=some o->b ≠ th->(upd H1 th (.ins g.Things.C dt (fThings tl wl ((s.ends:Int) + 1) s.any))) b=some o:=fun b o hb h2=>by rw [upd_ne h2]; exact hb
      have tr:Tr (NN tl wl) (NN tl wl) H1 (upd H1 th (.ins g.Things.C dt (fThings tl wl ((s.ends:Int) + 1) s.any))):=⟨fun a C d fs h1 h2=>keep a _ h1 (ins_ne h1 ho (by rw [h2]; simp [fThings,fToken])),fun a xs h1 h2=>⟨keep a _ h1 (Ne.symm (ins_lst ho h1)),h2⟩⟩
      refine q wl ats aws _ ?_
      rw [MC.put_line hk]
      refine ⟨fun b o hb=>keep b o (T1.base b o hb) (ne_of_none hb T.n0.1),⟨dt,upd_same⟩,T.n0,T.ne,keep tl _ T1.ltl (Ne.symm (ins_lst ho T1.ltl)),keep wl _ T1.lwl (Ne.symm (ins_lst ho T1.lwl)),?_,T1.wait.imp fun a l z=>z.tr tr,T.nd,T.nt,?_⟩
      · refine ⟨T.toks.1,fun i a k h1 h2=>?_⟩
        have z:=T1.toks.2 i a k h1 h2
        refine z.tr tr fun o ha=>?_
        obtain ⟨da,ra,la,aa,ba,_,_,za,_⟩:=z
        exact keep a o ha (ins_ne za ho (by simp [fThings,fToken]))
      · have:=T.few
        show s.tokens.length ≤ s.place + p.text.length∧s.leads.length ≤ s.place + p.text.length
        omega
    have hnl:p.kind ≠ .line:=fun e=>h (by rw [e]; rfl)
    refine ⟨_,rfl,rf_Piece_kind g hp1 ⟨rfl,_,rfl,ite2 (fun h2=>?_) (fun h2=>?_)⟩⟩
    · have hk:p.kind = .comment:=Cm.kindNo_inj (int_eq h2)
      obtain ⟨r',er⟩:=Cm.gen_hash hg hk
      rw [er] at hr1
      refine ⟨_,rfl,rm_Things_take_comment g ho ⟨_,rfl,pr,r',rfl,hr1,?_,fun p2 H2 s2 n2 ht2=>?_⟩⟩
      · have:=congrArg List.length er
        simp only [List.length_cons] at this
        omega
      rw [← er] at ht2
      have T2:=T1.same s2
      obtain ⟨dt2,ho2⟩:=T2.obj
      refine ⟨_,rfl,rm_Things_gap_here g ho2 ⟨th,dt2,tl,wl,s.ends,s.any,rfl,ho2,?_⟩⟩
      refine mk_Comment g fun x H3 nx s3 hx=>?_
      obtain ⟨dx,hx⟩:=hx
      refine ⟨H0,th,tl,wl,ats,aws,s,p,l,x,rfl,T2.same s3,hk,hg,R,⟨dx,p2,⟨Ne.symm (ne_of_none T1.ltl n2),Ne.symm (ne_of_none T1.lwl n2)⟩,hx,s3 _ _ ht2⟩,by omega,fun ats' aws' H' z=>q wl ats' aws' H' z⟩
    have hnc:p.kind ≠ .comment:=fun e=>h2 (by rw [e]; rfl)
    refine ⟨_,rfl,rf_Piece_kind g hp1 ⟨_,rfl,_,rfl,?_⟩⟩
    rw [Cm.kindNo_tok]
    refine ite2 (fun ht=>?_) (fun ht=>?_)
    · refine ⟨_,rfl,rm_Things_take_token g ho ⟨_,rfl,rf_Piece_kind g hp1 ⟨_,rfl,_,rfl,_,rfl,rm_Things_gap_here g ho ⟨th,dt,tl,wl,s.ends,s.any,rfl,ho,⟨_,rfl,rf_Things_waiting g ho ?_⟩⟩⟩⟩⟩
      refine mk_Token g fun x H3 nx s3 hx=>?_
      obtain ⟨dx,hx⟩:=hx
      have hxa:x ∉ ats:=fun hm=>by
        obtain ⟨i,hi⟩:=List.getElem?_of_mem hm
        obtain ⟨k,_,da,ra,la,aa,ba,_,_,za,_⟩:=T1.toks.get hi
        rw [za] at nx
        cases nx
      exact ⟨H0,th,tl,wl,ats,aws,s,p,x,dx,pr,rfl,T1.same s3,ht,hx,s3 _ _ hr1,⟨r_tl,r_wl⟩,T1.base.free nx,hxa,Cm.gen_pos hg,by omega,q⟩
    · have hk:p.kind = .blank:=by
        rcases MC.kinds p with z | z | z | z
        · exact z
        · exact absurd z hnl
        · exact absurd z hnc
        · exact absurd z ht
      refine q wl ats aws H1 ?_
      rw [MC.put_blank hk]
      obtain ⟨dz,hz⟩:=T1.obj
      exact ⟨T1.base,⟨dz,hz⟩,T1.n0,T1.ne,T1.ltl,T1.lwl,T1.toks,T1.wait,T1.nd,T1.nt,by have:=T.few; show s.tokens.length ≤ s.place + p.text.length∧s.leads.length ≤ s.place + p.text.length; omega⟩
def runOf (l:List Vafmta.Piece):Vafmta.Run:=l.foldl Vafmta.Run.put ⟨0,0,false,[],[]⟩
def sp_things_of (g:Pg K mg):Sp:=fun vs H Q _=>∃ (N:Addr->Prop) (x ta sl:Addr) (as:List Addr) (t:Vafmta.Bytes) (ss:List Vafmta.Stretch) (fr:Int),vs=[.ref x]∧CutAt g N H x ta sl as t ss fr ∧
  ∀ th tl wl ats aws H',ThSt g H H' th tl wl ats aws (runOf ss.flatten)->Q (.ref th) H'
theorem ok_things_of (g:Pg K mg):FnOk P w K mg base CX0 4 g.f_things_of.a g.f_things_of.fd ["cut"] (sp_things_of g):=by
  refine g.f_things_of.F.ok sc_things_of (fun vs H Q E h=>?_) (fun cdv A outer s H vs Q E hr h=>?_)
  · obtain ⟨N,x,ta,sl,as,t,ss,fr,rfl,_⟩:=h; rfl
  · obtain ⟨N,x,ta,sl,as,t,ss,fr,rfl,C,q⟩:=h
    refine ⟨_,(pss_cons (ps_set (i:=1) sc_things_of.nd rfl (Or.inl rfl) (pe_make0 g.Things.mk1 (ok_Things_init g) (hr.mono (by decide)) rfl g.Things.mg g.Things.b .nil pass0))
      (pss_cons (ps_set (i:=2) sc_things_of.nd rfl (Or.inl rfl) pe_int)
      (pss_cons (ps_for PassesOwn.never rfl (pi_list (pe_fld (pv 0) rfl)) (pg_name (i:=3) sc_things_of.nd rfl (Or.inl rfl)) (pss_one (ps_for PassesOwn.never rfl (pi_list (pe_fld (pv 3) rfl)) (pg_name (i:=4) sc_things_of.nd rfl (Or.inl rfl)) (pss_cons (ps_expr (pe_meth (pv 1) g.Things.cl g.m_Things_take.m (ok_Things_take g) (hr.mono (by decide)) g.m_Things_take.b .nil pass0 (pa_cons (pv 4) (pa_cons (pe_fld (pv 0) rfl) (pa_cons (pv 2) pa_nil)))))
          (pss_one (ps_aug (i:=2) sc_things_of.nd rfl (Or.inl rfl) (pe_fld (pv 4) rfl) ip_add))))))
      (pss_one (ps_ret (pv 1)))))),?_⟩
    refine mk_Things g fun th tl wl H1 T1=>?_
    have hgood:=C.good
    have hplace:∀ l:List Vafmta.Piece,(runOf l).place=(Vafmta.bytesOf l).length:=fun l=>by
      unfold runOf
      rw [Cm.fold_place]
      show 0 + _=_
      omega
    have inv:∀ (done:List Vafmta.Piece) (p:Vafmta.Piece) (rem:List Vafmta.Piece),ss.flatten=done ++ p :: rem->MC.RInv (runOf done) (p :: rem)->MC.CL (p :: rem) []->MC.Gen p∧MC.RInv (runOf (done ++ [p])) rem∧MC.CL rem []∧(t.drop (runOf done).place).take p.text.length=p.text∧(runOf done).place + p.text.length ≤ t.length:=by
      intro done p rem e R L
      have gp:MC.Gen p:=hgood.gen p (by rw [e]; simp)
      have hb:=Cm.next_bytes hgood.bytes e
      refine ⟨gp,?_,L.2,?_,?_⟩
      · unfold runOf
        rw [List.foldl_append]
        exact R.put gp L
      · rw [hplace,hb,List.take_left]
      · have z:=congrArg List.length hb
        rw [List.length_drop,List.length_append] at z
        rw [hplace]
        have:=Cm.gen_pos gp
        omega
    obtain ⟨dx,ho⟩:=C.obj
    have ho1:=T1.base _ _ ho
    refine ⟨_,rfl,rf_Cut_stretches g ho1 ⟨sl,rfl,⟨_,SqL.of (T1.base _ _ C.lst)⟩,for_list (K:=K) (a:=sl) (xs:=as.map V.ref) (fun i σ H'=>∃ (wl:Addr) (ats aws:List Addr) (v1 v2:Option V),σ=[some (.ref x),some (.ref th),some (.int ((runOf (ss.take i).flatten).place:Int)),v1,v2]∧ThSt g H H' th tl wl ats aws (runOf (ss.take i).flatten)∧MC.RInv (runOf (ss.take i).flatten) (ss.drop i).flatten∧MC.CL (ss.drop i).flatten []) ?_ ?_ ?_ ?_⟩⟩
    · exact ⟨wl,[],[],none,none,rfl,T1,.start _ _,hgood.cl⟩
    · rintro i σ H' _ ⟨wl,ats,aws,v1,v2,rfl,T,_⟩
      exact SqL.of (T.base _ _ C.lst)
    · rintro i y σ H' hi ⟨wl,ats,aws,v1,v2,rfl,T,R,L⟩
      obtain ⟨a,ea,rfl⟩:=ref_get hi
      obtain ⟨z,ez,dz,lz,az,hz0,hz,hlz,haz⟩:=C.sts.get ea
      have efl:∀ j,ss.flatten=((ss.take i).flatten ++ z.take j) ++ (z.drop j ++ (ss.drop (i + 1)).flatten):=fun j=>by
        rw [List.append_assoc,← List.append_assoc (z.take j),List.take_append_drop,← List.flatten_cons,← Cm.drop_cons ez,← List.flatten_append,List.take_append_drop]
      rw [Cm.drop_cons ez,List.flatten_cons] at R L
      refine ⟨_,rfl,rf_Stretch_pieces g (T.base _ _ hz) ⟨lz,rfl,⟨_,SqL.of (T.base _ _ hlz)⟩,for_list (K:=K) (a:=lz) (xs:=az.map V.ref) (fun j σ H2=>∃ (wl:Addr) (ats aws:List Addr) (v2:Option V),σ=[some (.ref x),some (.ref th),some (.int ((runOf ((ss.take i).flatten ++ z.take j)).place:Int)),some (.ref a),v2]∧ThSt g H H2 th tl wl ats aws (runOf ((ss.take i).flatten ++ z.take j))∧MC.RInv (runOf ((ss.take i).flatten ++ z.take j)) (z.drop j ++ (ss.drop (i + 1)).flatten)∧MC.CL (z.drop j ++ (ss.drop (i + 1)).flatten) []) ?_ ?_ ?_ ?_⟩⟩
      · rw [List.take_zero,List.append_nil]
        exact ⟨wl,ats,aws,v2,rfl,T,R,L⟩
      · rintro j σ H2 _ ⟨wl,ats,aws,v2,rfl,T2,_⟩
        exact SqL.of (T2.base _ _ hlz)
      · rintro j y σ H2 hj ⟨wl2,ats2,aws2,v3,rfl,T2,R2,L2⟩
        obtain ⟨b,eb,rfl⟩:=ref_get hj
        obtain ⟨pc,epc,hpc⟩:=haz.get eb
        obtain ⟨dp,hp⟩:=id hpc
        have efj:=efl j
        rw [Cm.drop_cons epc,List.cons_append] at R2 L2 efj
        obtain ⟨gp,R3,L3,ht3,hl3⟩:=inv _ pc _ efj R2 L2
        have esn:(ss.take i).flatten ++ z.take (j + 1)=((ss.take i).flatten ++ z.take j) ++ [pc]:=by rw [take_snoc epc,List.append_assoc]
        have eput:runOf ((ss.take i).flatten ++ z.take (j + 1))=(runOf ((ss.take i).flatten ++ z.take j)).put pc:=by
          rw [esn]
          unfold runOf
          rw [List.foldl_append]
          rfl
        obtain ⟨dt2,ho2⟩:=T2.obj
        refine ⟨_,rfl,rm_Things_take g ho2 ⟨_,rfl,_,rfl,rf_Cut_text g (T2.base _ _ ho) ⟨_,rfl,H,th,tl,wl2,ats2,aws2,_,pc,_,b,ta,t,rfl,T2,hpc,C.txt,ht3,hl3,C.len,gp,R2,fun wl' ats' aws' H3 T3=>?_⟩⟩⟩
        refine ⟨_,rfl,_,rfl,rf_Piece_size g (T3.base _ _ hp) ⟨_,_,rfl,rfl,?_⟩⟩
        refine ⟨wl',ats',aws',some (.ref b),?_,by rw [eput]; exact T3,by rw [esn]; exact R3,L3⟩
        rw [eput,Cm.put_place]
        rfl
      · rintro σ H2 ⟨wl2,ats2,aws2,v3,rfl,T2,R2,L2⟩
        have e1:(ss.take (i + 1)).flatten=(ss.take i).flatten ++ z:=by rw [take_snoc ez,List.flatten_append]; simp
        rw [List.length_map,haz.1,List.take_length] at T2 R2
        rw [List.length_map,haz.1,List.drop_length,List.nil_append] at L2
        rw [List.drop_length,List.nil_append] at R2
        rw [List.length_map,haz.1,List.take_length]
        refine ⟨wl2,ats2,aws2,_,_,by rw [e1],by rw [e1]; exact T2,by rw [e1]; exact R2,L2⟩
    · rintro σ H' ⟨wl,ats,aws,v1,v2,rfl,T,R,L⟩
      rw [List.length_map,C.sts.1,List.take_length] at T
      exact ⟨_,rfl,q th tl wl ats aws H' T⟩
end
end Cb
end
section
set_option maxRecDepth 100000
set_option maxHeartbeats 4000000
namespace Cb
open PySem PySem.Spec PyProof.Rows L2
open Cm (bi)
def rowD (t:Vafmta.Bytes):PyData:=.list (t.map fun b=>.int (bi b))
def rowsD (ls:List Vafmta.Bytes):PyData:=.list (ls.map rowD)
def behD : Option Vafmta.Bytes->PyData
  | none=>.none
  | some b=>rowD b
def tokD (t:Vafmta.Token):PyData:=.tuple [.int (Vafmta.kindNo t.kind),rowD t.text,rowsD (t.leads.map fun l=>l.text),behD t.behind]
theorem eqvAll_ints : ∀ (a b:Vafmta.Bytes),PyData.eqvAll (a.map fun b=>.int (bi b)) (b.map fun b=>.int (bi b))=(a == b)
  | [],[]=>by simp [PyData.eqvAll]
  | [],_ :: _=>by simp [PyData.eqvAll]
  | _ :: _,[]=>by simp [PyData.eqvAll]
  | x :: a,y :: b=>by
    simp only [List.map_cons,PyData.eqvAll,PyData.eqv,eqvAll_ints a b,Cm.bi_beq2]
    rfl
theorem eqv_row (a b:Vafmta.Bytes):PyData.eqv (rowD a) (rowD b)=(a == b):=by
  unfold rowD
  simp only [PyData.eqv]
  exact eqvAll_ints a b
theorem eqvAll_rows : ∀ (a b:List Vafmta.Bytes),PyData.eqvAll (a.map rowD) (b.map rowD)=(a == b)
  | [],[]=>by simp [PyData.eqvAll]
  | [],_ :: _=>by simp [PyData.eqvAll]
  | _ :: _,[]=>by simp [PyData.eqvAll]
  | x :: a,y :: b=>by
    simp only [List.map_cons,PyData.eqvAll,eqv_row,eqvAll_rows a b]
    rfl
theorem eqv_rows (a b:List Vafmta.Bytes):PyData.eqv (rowsD a) (rowsD b)=(a == b):=by
  unfold rowsD
  simp only [PyData.eqv]
  exact eqvAll_rows a b
theorem eqv_beh (a b:Option Vafmta.Bytes):PyData.eqv (behD a) (behD b)=(a == b):=by
  cases a with
  | none =>
    cases b with
    | none=>simp [behD,PyData.eqv]
    | some y=>simp [behD,rowD,PyData.eqv]
  | some x =>
    cases b with
    | none=>simp [behD,rowD,PyData.eqv]
    | some y =>
      show PyData.eqv (rowD x) (rowD y)=_
      rw [eqv_row]
      rfl
theorem eqv_tok (a b:Vafmta.Token):PyData.eqv (tokD a) (tokD b)=Vafmta.alike a b:=by
  unfold tokD Vafmta.alike
  simp only [PyData.eqv,PyData.eqvAll,eqv_row,eqv_rows,eqv_beh,Cm.kind_beq,Bool.and_true,Bool.and_assoc]
theorem lay_ints : ∀ (a:Vafmta.Bytes),PyData.canLayAll0 (a.map fun b=>.int (bi b))=true∧PyData.depthAll (a.map fun b=>.int (bi b)) ≤ 1
  | []=>by simp [PyData.canLayAll0,PyData.depthAll]
  | x :: a=>by
    have:=lay_ints a
    simp only [List.map_cons,PyData.canLayAll0,PyData.depthAll,PyData.canLay0,PyData.depth,this.1,Bool.and_self,true_and]
    have:=this.2
    omega
theorem lay_row (a:Vafmta.Bytes):PyData.canLay0 (rowD a)=true∧PyData.depth (rowD a) ≤ 2:=by
  unfold rowD
  have:=lay_ints a
  simp only [PyData.canLay0,PyData.depth]
  exact ⟨this.1,by have:=this.2; omega⟩
theorem lay_rowsAll : ∀ (a:List Vafmta.Bytes),PyData.canLayAll0 (a.map rowD)=true∧PyData.depthAll (a.map rowD) ≤ 2
  | []=>by simp [PyData.canLayAll0,PyData.depthAll]
  | x :: a=>by
    have h1:=lay_rowsAll a
    have h2:=lay_row x
    simp only [List.map_cons,PyData.canLayAll0,PyData.depthAll,h1.1,h2.1,Bool.and_self,true_and]
    have:=h1.2
    have:=h2.2
    omega
theorem lay_rows (a:List Vafmta.Bytes):PyData.canLay0 (rowsD a)=true∧PyData.depth (rowsD a) ≤ 3:=by
  unfold rowsD
  have:=lay_rowsAll a
  simp only [PyData.canLay0,PyData.depth]
  exact ⟨this.1,by have:=this.2; omega⟩
theorem lay_beh (a:Option Vafmta.Bytes):PyData.canLay0 (behD a)=true∧PyData.depth (behD a) ≤ 2:=by
  cases a with
  | none=>simp [behD,PyData.canLay0,PyData.depth]
  | some b=>exact lay_row b
theorem shaped_of {d:PyData} (h1:PyData.canLay0 d=true) (h2:PyData.depth d ≤ 64):SeqAt.shaped d=true:=by
  unfold SeqAt.shaped
  rw [h1,decide_eq_true h2]
  rfl
theorem shaped_rows (a:List Vafmta.Bytes):SeqAt.shaped (rowsD a)=true:=shaped_of (lay_rows a).1 (by have:=(lay_rows a).2; omega)
theorem shaped_tok (t:Vafmta.Token):SeqAt.shaped (tokD t)=true:=by
  have h1:=lay_row t.text
  have h2:=lay_rows (t.leads.map fun l=>l.text)
  have h3:=lay_beh t.behind
  refine shaped_of ?_ ?_
  · unfold tokD
    simp only [PyData.canLay0,PyData.canLayAll0,h1.1,h2.1,h3.1,Bool.and_self]
  · unfold tokD
    simp only [PyData.depth,PyData.depthAll]
    have:=h1.2
    have:=h2.2
    have:=h3.2
    omega
theorem sqT_same {K:PySem.W.Frag}{H H':Hp}{a:Addr}{xs:List V} (e:Same H H') (h:SqT K H a xs):SqT K H' a xs:=by
  rcases h with (h | ⟨o,h⟩) | h
  · exact .inl (.inl (e _ _ h))
  · exact .inl (.inr ⟨o,e _ _ h⟩)
  · exact .inr h
mutual
theorem dp_same {K:PySem.W.Frag}{H H':Hp} (s:Same H H'):∀ (d:PyData) (v:V),Dp K H v d->Dp K H' v d
  | .none,_,x=>by cases x; exact .non
  | .bool b,_,x=>by cases x; exact .bl b
  | .int i,_,x=>by cases x; exact .int i
  | .str z,_,x=>by cases x; exact .str z
  | .list ds,_,x=>by
    cases x with
    | lst hs ha=>exact .lst (s.seq hs) (dpAll_same s ds _ ha)
  | .tuple ds,_,x=>by
    cases x with
    | tup hs ha=>exact .tup (sqT_same s hs) (dpAll_same s ds _ ha)
  | .dict _,_,x=>by cases x
theorem dpAll_same {K:PySem.W.Frag}{H H':Hp} (s:Same H H'):∀ (ds:List PyData) (vs:List V),DpAll K H vs ds->DpAll K H' vs ds
  | [],_,x=>by cases x; exact .nil
  | d :: ds,_,x=>by
    cases x with
    | cons h1 h2=>exact .cons (dp_same s d _ h1) (dpAll_same s ds _ h2)
end
theorem dp_ints {K:PySem.W.Frag}{H:Hp}:∀ (a:Vafmta.Bytes),DpAll K H (bV a) (a.map fun b=>.int (bi b))
  | []=>.nil
  | x :: a=>.cons (.int _) (dp_ints a)
theorem dp_row {K:PySem.W.Frag}{H:Hp}{r:Addr}{t:Vafmta.Bytes} (h:TextAt H r t):Dp K H (.ref r) (rowD t):=.lst (SqL.of h) (dp_ints t)
theorem dp_rowsAll {K:PySem.W.Frag}{H:Hp}:∀ (rs:List Addr) (ls:List Vafmta.Bytes),Ats (TextAt H) rs ls->DpAll K H (rs.map V.ref) (ls.map rowD)
  | [],[],_=>.nil
  | [],_ :: _,h=>by have:=h.1; simp at this
  | _ :: _,[],h=>by have:=h.1; simp at this
  | r :: rs,l :: ls,h=>.cons (dp_row (h.2 0 r l rfl rfl)) (dp_rowsAll rs ls ⟨by have:=h.1; simp at this; exact this,fun i a x h1 h2=>h.2 (i + 1) a x h1 h2⟩)
theorem ats_rows {α:Type}{R:Addr->α->Prop}{S:Addr->Addr->α->Prop} (f:∀ a x,R a x->∃ b,S a b x):∀ (as:List Addr) (xs:List α),Ats R as xs->∃ bs:List Addr,bs.length=as.length∧∀ (i:Nat) (a:Addr) (x:α),as[i]?=some a->xs[i]?=some x->∃ b,bs[i]?=some b∧S a b x
  | [],xs,_=>⟨[],rfl,fun i a x h=>by simp at h⟩
  | a :: as,[],h=>by have:=h.1; simp at this
  | a :: as,x :: xs,h=>by
    obtain ⟨b,hb⟩:=f a x (h.2 0 a x rfl rfl)
    obtain ⟨bs,h1,h2⟩:=ats_rows f as xs ⟨by have:=h.1; simp at this; exact this,fun i a x e1 e2=>h.2 (i + 1) a x e1 e2⟩
    refine ⟨b :: bs,by rw [List.length_cons,List.length_cons,h1],fun i a' x' e1 e2=>?_⟩
    cases i with
    | zero=>cases e1; cases e2; exact ⟨b,rfl,hb⟩
    | succ i=>exact h2 i a' x' e1 e2
section
variable {P:Program}{w:World}{K:PySem.W.Frag}{mg:Str->Option Value}{base:Heap}
def sp_rows_of (g:Pg K mg):Sp:=fun vs H Q _=>∃ (N:Addr->Prop) (l:Addr) (as:List Addr) (ls:List Vafmta.Lead),vs=[.ref l]∧H l=some (.lst (as.map V.ref))∧Ats (CommentAt g N H) as ls∧ls.length ≤ 100000 ∧
  ∀ p H',Same H H'->Dp K H' (.ref p) (rowsD (ls.map fun l=>l.text))->Q (.ref p) H'
theorem ok_rows_of (g:Pg K mg):FnOk P w K mg base CX0 1 g.f_rows_of.a g.f_rows_of.fd ["comments"] (sp_rows_of g):=by
  refine g.f_rows_of.F.ok sc_rows_of (fun vs H Q E h=>?_) (fun cdv A outer s H vs Q E hr h=>?_)
  · obtain ⟨N,l,as,ls,rfl,_⟩:=h; rfl
  · obtain ⟨N,l,as,ls,rfl,hl,ha,hn,q⟩:=h
    refine ⟨_,(pss_one (ps_ret (pe_lc rfl sc_rows_of.nd (pi_list (pv 0)) (own:=[("comment",1)]) (blk_by (N:=["comments","comment"]) (sc:=defScope s_rows_of) rfl rfl (by decide +kernel)) (fun _ _ _ _ _=>pg_name (i:=1) sc_rows_of.nd rfl (Or.inl rfl) (Or.inr rfl)) (fun _ _ _ _ _=>pts_nil) (fun _ _ _ _ _=>(pe_fldk (K:=K) rfl (pv 1) rfl))))),?_⟩
    obtain ⟨rs,hrl,hrs⟩:=ats_rows (S:=fun a r (x:Vafmta.Lead)=>(∃ dx,H a=some (.ins g.Comment.C dx (fComment r (Vafmta.truth x.gap))))∧TextAt H r x.text) (fun a x ⟨dx,r,_,h1,h2⟩=>⟨r,⟨dx,h1⟩,h2⟩) as ls ha
    have hal:=ha.1
    refine ⟨_,rfl,l,rfl,⟨_,SqL.of hl⟩,fun D hD=>lc_ix (xs:=as.map V.ref) (fun i=>(rs.take i).map V.ref) rfl (fun i hi=>?_) hD (SqL.of hl) (fun i v H3 hi s3 C N0 h1 h0=>?_) ?_⟩
    · rw [List.length_map] at hi ⊢
      exact lim1 (k:=100000) (by rw [List.length_take]; omega)
    · obtain ⟨a,ea,rfl⟩:=ref_get hi
      obtain ⟨x,ex,_⟩:=ha.get ea
      obtain ⟨r,er,⟨dx,hx⟩,_⟩:=hrs i a x ea ex
      refine ⟨rfl,_,rfl,rf_Comment_row g (s3 _ _ hx) (h1 _ ?_)⟩
      show (rs.take (i + 1)).map V.ref=_
      rw [take_snoc er,List.map_append]
      rfl
    · refine q D _ (same_new hD) (.lst (SqL.of upd_same) ?_)
      rw [List.length_map,← hrl,List.take_length]
      refine dp_rowsAll rs _ ⟨by rw [List.length_map,hrl,hal],fun i r b e1 e2=>?_⟩
      rw [List.getElem?_map] at e2
      cases ex:ls[i]? with
      | none=>rw [ex] at e2; cases e2
      | some x =>
        rw [ex] at e2
        have eb:x.text=b:=Option.some.inj e2
        obtain ⟨a,ea,_⟩:=ha.get' ex
        obtain ⟨r',er,_,ht⟩:=hrs i a x ea ex
        rw [e1] at er
        cases er
        rw [← eb]
        exact same_new hD _ _ ht
def sp_what_counts (g:Pg K mg):Sp:=fun vs H Q _=>∃ (N:Addr->Prop) (x:Addr) (k:Vafmta.Token),vs=[.ref x]∧TokenAt g N H x k∧k.leads.length ≤ 100000∧∀ p H',Same H H'->Dp K H' (.ref p) (tokD k)->Q (.ref p) H'
theorem ok_what_counts (g:Pg K mg):FnOk P w K mg base CX0 2 g.f_what_counts.a g.f_what_counts.fd ["token"] (sp_what_counts g):=by
  refine g.f_what_counts.F.ok sc_what_counts (fun vs H Q E h=>?_) (fun cdv A outer s H vs Q E hr h=>?_)
  · obtain ⟨N,x,k,rfl,_⟩:=h; rfl
  · obtain ⟨N,x,k,rfl,⟨dx,r,ll,as,bh,n1,n2,hx,hrt,hll,has,hbh⟩,hn,q⟩:=h
    refine ⟨_,(pss_cons (ps_set (i:=1) sc_what_counts.nd rfl (Or.inl rfl) (pe_ifExp (pt_cmpR op_isN (pe_fld (pv 0) rfl) pe_non (nomark _)) pe_non (pe_fld (pe_fld (pv 0) rfl) rfl)))
      (pss_one (ps_ret (pe_tup (pa_cons (pe_fld (pv 0) rfl) (pa_cons (pe_fld (pv 0) rfl) (pa_cons (pe_call (ok_rows_of g) (hr.mono (by decide)) rfl g.f_rows_of.m g.f_rows_of.F.kp g.f_rows_of.b .nil pass0 (pa_cons (pe_fld (pv 0) rfl) pa_nil)) (pa_cons (pv 1) pa_nil)))))))),?_⟩
    have fin:∀ v,(∀ H',Same H H'->Dp K H' v (behD k.behind))->tRet (tTup (tCons (tFld K (tVar 0) "kind") (tCons (tFld K (tVar 0) "row") (tCons (tCall (sp_rows_of g) [] E0 (tCons (tFld K (tVar 0) "leading") tNil)) (tCons (tVar 1) tNil))))) { nx:=fun _ H'=>Q .non H',rt:=Q } [some (.ref x),some v] H:=by
      intro v hv
      refine ⟨_,rfl,rf_Token_kind g hx ⟨_,rfl,rf_Token_row g hx ⟨_,rfl,rf_Token_leading g hx ⟨N,ll,as,k.leads,rfl,hll,has,hn,fun p H1 s1 hp=>⟨_,rfl,(by show 4 ≤ sizeLine; decide),fun p2 hp2=>?_⟩⟩⟩⟩⟩
      have s2:=s1.trans (same_new (o:=.tup [.int (Vafmta.kindNo k.kind),.ref r,.ref p,v]) hp2)
      refine q p2 _ s2 (.tup (SqT.of upd_same) (.cons (.int _) (.cons (dp_row (s2 _ _ hrt)) (.cons (dp_same (same_new hp2) _ _ hp) (.cons (hv _ s2) .nil)))))
    refine ⟨_,rfl,rf_Token_behind g hx ⟨rfl,_,rfl,?_⟩⟩
    rcases hbh with ⟨e1,e2⟩ | ⟨y,l,e1,e2,dy,ry,nry,hy,hty⟩
    · subst e2
      refine ite2 (fun _=>?_) (fun h=>absurd (decide_eq_true rfl) h)
      refine fin .non fun H' _=>?_
      rw [e1]
      exact .non
    · subst e1
      refine ite2 (fun h=>absurd (of_decide_eq_true h) (fun z=>nomatch z)) (fun _=>?_)
      refine ⟨_,rfl,rf_Token_behind g hx (rf_Comment_row g hy ?_)⟩
      refine fin (.ref ry) fun H' s'=>?_
      rw [e2]
      exact dp_row (s' _ _ hty)
def ThAt (g:Pg K mg) (H:Hp) (th:Addr) (toks:List Vafmta.Token) (tail:List Vafmta.Lead):Prop:=∃ (N:Addr->Prop) (dx tl wl:Addr) (ats aws:List Addr) (n:Int) (b:Bool),H th=some (.ins g.Things.C dx (fThings tl wl n b))∧H tl=some (.lst (ats.map V.ref))∧H wl=some (.lst (aws.map V.ref))∧Ats (TokenAt g N H) ats toks∧Ats (CommentAt g N H) aws tail
def sp_first_difference (g:Pg K mg):Sp:=fun vs H Q _=>∃ (t1 t2:Addr) (A B:List Vafmta.Token) (x y:List Vafmta.Lead),vs=[.ref t1,.ref t2]∧ThAt g H t1 A x∧ThAt g H t2 B y∧A.length ≤ 100000∧B.length ≤ 100000∧(∀ t ∈ A,t.leads.length ≤ 100000)∧(∀ t ∈ B,t.leads.length ≤ 100000)∧x.length ≤ 100000∧y.length ≤ 100000 ∧
  ∀ H',Same H H'->Q (.int (Cm.diffI A B x y)) H'
theorem ok_first_difference (g:Pg K mg):FnOk P w K mg base CX0 3 g.f_first_difference.a g.f_first_difference.fd ["some","others"] (sp_first_difference g):=by
  refine g.f_first_difference.F.ok sc_first_difference (fun vs H Q E h=>?_) (fun cdv A outer s H vs Q E hr h=>?_)
  · obtain ⟨t1,t2,A,B,x,y,rfl,_⟩:=h; rfl
  · obtain ⟨t1,t2,A,B,x,y,rfl,T1,T2,hA,hB,hAl,hBl,hx,hy,q⟩:=h
    refine ⟨_,(pss_cons (ps_set (i:=2) sc_first_difference.nd rfl (Or.inl rfl) (pe_callB (call_min2 rfl) (by rfl) g.n_min PyProof.Rows.boot_min (pa_cons (pe_callB call_len_seq (by rfl) g.n_len PySem.boot_len (pa_cons (pe_fld (pv 0) rfl) pa_nil)) (pa_cons (pe_callB call_len_seq (by rfl) g.n_len PySem.boot_len (pa_cons (pe_fld (pv 1) rfl) pa_nil)) pa_nil))))
      (pss_cons (ps_for PassesOwn.never rfl (pi_range1 rfl g.n_range (pa_cons (pv 2) pa_nil)) (pg_name (i:=3) sc_first_difference.nd rfl (Or.inl rfl)) (pss_one (ps_if (pt_cmpR (op_neD hr.units) (pe_call (ok_what_counts g) (hr.mono (by decide)) rfl g.f_what_counts.m g.f_what_counts.F.kp g.f_what_counts.b .nil pass0 (pa_cons (pe_ix ix_list (pe_fld (pv 0) rfl) (pv 3) (fun _ _=>rfl)) pa_nil)) (pe_call (ok_what_counts g) (hr.mono (by decide)) rfl g.f_what_counts.m g.f_what_counts.F.kp g.f_what_counts.b .nil pass0 (pa_cons (pe_ix ix_list (pe_fld (pv 1) rfl) (pv 3) (fun _ _=>rfl)) pa_nil)) (nomark _)) (pss_one (ps_ret (pv 3))) pss_nil)))
      (pss_cons (ps_if (PW.pt (pw_or (pt_cmpR op_ne (pe_callB call_len_seq (by rfl) g.n_len PySem.boot_len (pa_cons (pe_fld (pv 0) rfl) pa_nil)) (pe_callB call_len_seq (by rfl) g.n_len PySem.boot_len (pa_cons (pe_fld (pv 1) rfl) pa_nil)) (nomark _)) (pw_or1 (pt_cmpR (op_neD hr.units) (pe_call (ok_rows_of g) (hr.mono (by decide)) rfl g.f_rows_of.m g.f_rows_of.F.kp g.f_rows_of.b .nil pass0 (pa_cons (pe_fld (pv 0) rfl) pa_nil)) (pe_call (ok_rows_of g) (hr.mono (by decide)) rfl g.f_rows_of.m g.f_rows_of.F.kp g.f_rows_of.b .nil pass0 (pa_cons (pe_fld (pv 1) rfl) pa_nil)) (nomark _))))) (pss_one (ps_ret (pv 2))) pss_nil)
      (pss_one (ps_ret (pe_un un_neg pe_int)))))),?_⟩
    obtain ⟨N1,d1,tl1,wl1,at1,aw1,n1,b1,o1,l1,m1,k1,c1⟩:=T1
    obtain ⟨N2,d2,tl2,wl2,at2,aw2,n2,b2,o2,l2,m2,k2,c2⟩:=T2
    refine ⟨_,rfl,rf_Things_tokens g o1 ⟨_,_,rfl,.inl (SqL.of l1),_,rfl,rf_Things_tokens g o2 ⟨_,_,rfl,.inl (SqL.of l2),_,_,rfl,?_⟩⟩⟩
    have e1:(at1.map V.ref).length=A.length:=by rw [List.length_map,k1.1]
    have e2:(at2.map V.ref).length=B.length:=by rw [List.length_map,k2.1]
    have em:(if ((at2.map V.ref).length:Int) < ((at1.map V.ref).length:Int) then ((at2.map V.ref).length:Int) else ((at1.map V.ref).length:Int))=((min A.length B.length:Nat):Int):=by
      rw [e1,e2]
      split <;> omega
    rw [em]
    generalize hm:min A.length B.length=m
    refine ⟨_,rfl,_,rfl,by omega,by omega,for_range (lo:=0) (n:=((m:Nat):Int).toNat) (fun i σ H'=>∃ v,σ=[some (.ref t1),some (.ref t2),some (.int (m:Int)),v]∧Same H H'∧Vafmta.unlike 0 A B x y=Vafmta.unlike i (A.drop i) (B.drop i) x y) ?_ ?_ ?_⟩
    · exact ⟨none,rfl,.refl H,rfl⟩
    · rintro i σ H1 hi ⟨v,rfl,s1,eu⟩
      rw [Int.toNat_natCast] at hi
      obtain ⟨ta,ea,da⟩:=Cm.drop_lt (t:=A) (n:=i) (by omega)
      obtain ⟨tb,eb,db⟩:=Cm.drop_lt (t:=B) (n:=i) (by omega)
      obtain ⟨xa,exa,hxa⟩:=k1.get' ea
      obtain ⟨xb,exb,hxb⟩:=k2.get' eb
      have z0:(0:Int) + (i:Int)=(i:Int):=by omega
      refine ⟨_,rfl,rf_Things_tokens g (s1 _ _ o1) ⟨_,rfl,tl1,_,_,V.ref xa,rfl,rfl,SqL.of (s1 _ _ l1),by rw [z0]; exact atI_nat (by rw [List.getElem?_map,exa]; rfl),N1,xa,ta,rfl,hxa.same s1,hAl _ (List.mem_of_getElem? ea),fun p H2 s2 hp=>?_⟩⟩
      have s12:=s1.trans s2
      refine ⟨_,rfl,rf_Things_tokens g (s12 _ _ o2) ⟨_,rfl,tl2,_,_,V.ref xb,rfl,rfl,SqL.of (s12 _ _ l2),by rw [z0]; exact atI_nat (by rw [List.getElem?_map,exb]; rfl),N2,xb,tb,rfl,hxb.same s12,hBl _ (List.mem_of_getElem? eb),fun p2 H3 s3 hp2=>?_⟩⟩
      refine ⟨_,_,dp_same s3 _ _ hp,hp2,shaped_tok _,shaped_tok _,_,rfl,?_⟩
      rw [eqv_tok]
      cases hal:Vafmta.alike ta tb with
      | true =>
        refine iteF ?_
        exact ⟨_,rfl,s12.trans s3,by rw [eu,Cm.unlike_step ea eb hal]⟩
      | false =>
        refine iteT ⟨_,rfl,?_⟩
        rw [Cm.unlike_here ea eb hal] at eu
        have:=q H3 (s12.trans s3)
        rw [Cm.diffI_some eu] at this
        rw [z0]
        exact this
    · rintro σ H1 ⟨v,rfl,s1,eu⟩
      rw [Int.toNat_natCast] at eu
      refine ⟨_,rfl,rf_Things_tokens g (s1 _ _ o1) ⟨_,_,rfl,.inl (SqL.of (s1 _ _ l1)),_,rfl,rf_Things_tokens g (s1 _ _ o2) ⟨_,_,rfl,.inl (SqL.of (s1 _ _ l2)),rfl,_,rfl,?_⟩⟩⟩
      rw [e1,e2]
      by_cases hl:A.length=B.length
      · rw [show (!decide (V.int (A.length:Int)=V.int (B.length:Int)))=false from by rw [hl]; simp]
        refine iteF ?_
        refine ⟨_,rfl,rf_Things_waiting g (s1 _ _ o1) ⟨N1,wl1,aw1,x,rfl,s1 _ _ m1,c1.imp fun a l z=>z.same s1,hx,fun p H2 s2 hp=>?_⟩⟩
        have s12:=s1.trans s2
        refine ⟨_,rfl,rf_Things_waiting g (s12 _ _ o2) ⟨N2,wl2,aw2,y,rfl,s12 _ _ m2,c2.imp fun a l z=>z.same s12,hy,fun p2 H3 s3 hp2=>?_⟩⟩
        refine ⟨_,_,dp_same s3 _ _ hp,hp2,shaped_rows _,shaped_rows _,_,rfl,?_⟩
        rw [eqv_rows]
        have ue:=Cm.unlike_end (n:=m) (A:=A) (B:=B) (x:=x) (y:=y) hl
        rw [hm] at ue
        rw [ue] at eu
        have:=q H3 (s12.trans s3)
        cases hxy:((x.map fun l=>l.text) == (y.map fun l=>l.text)) with
        | true =>
          rw [hxy,if_pos rfl] at eu
          rw [Cm.diffI_none eu] at this
          refine iteF ⟨_,rfl,this⟩
        | false =>
          rw [hxy,if_neg (by decide)] at eu
          rw [Cm.diffI_some eu] at this
          refine iteT ⟨_,rfl,this⟩
      · rw [show (!decide (V.int (A.length:Int)=V.int (B.length:Int)))=true from by
          rw [decide_eq_false]
          · rfl
          · intro z
            have:=V.int.inj z
            omega]
        refine iteT (iteT ⟨_,rfl,?_⟩)
        have ue:=Cm.unlike_len (n:=m) (A:=A) (B:=B) (x:=x) (y:=y) hl
        rw [hm] at ue
        rw [ue] at eu
        have:=q H1 s1
        rw [Cm.diffI_some eu] at this
        exact this
end
end Cb
end
section
set_option maxRecDepth 100000
set_option maxHeartbeats 4000000
namespace Cb
open PySem PySem.Spec PyProof.Rows L2
open Cm (bi)
def pieceD (p:Vafmta.Piece):PyData:=.tuple [.int (Vafmta.kindNo p.kind),rowD p.text]
theorem eqv_piece (a b:Vafmta.Piece):PyData.eqv (pieceD a) (pieceD b)=decide (a=b):=by
  unfold pieceD
  simp only [PyData.eqv,PyData.eqvAll,eqv_row,Cm.kind_beq,Bool.and_true]
  apply Bool.eq_iff_iff.mpr
  simp only [Bool.and_eq_true,beq_iff_eq,decide_eq_true_eq]
  constructor
  · rintro ⟨h1,h2⟩
    cases a; cases b
    simp only at h1 h2
    rw [h1,h2]
  · intro h
    rw [h]
    exact ⟨rfl,rfl⟩
theorem eqvAll_pieces : ∀ (a b:List Vafmta.Piece),PyData.eqvAll (a.map pieceD) (b.map pieceD)=decide (a=b)
  | [],[]=>by simp [PyData.eqvAll]
  | [],_ :: _=>by simp [PyData.eqvAll]
  | _ :: _,[]=>by simp [PyData.eqvAll]
  | x :: a,y :: b=>by
    simp only [List.map_cons,PyData.eqvAll,eqv_piece,eqvAll_pieces a b]
    apply Bool.eq_iff_iff.mpr
    simp only [Bool.and_eq_true,decide_eq_true_eq,List.cons.injEq]
def piecesD (l:List Vafmta.Piece):PyData:=.list (l.map pieceD)
theorem eqv_pieces (a b:List Vafmta.Piece):PyData.eqv (piecesD a) (piecesD b)=decide (a=b):=by
  unfold piecesD
  simp only [PyData.eqv]
  exact eqvAll_pieces a b
theorem lay_piece (p:Vafmta.Piece):PyData.canLay0 (pieceD p)=true∧PyData.depth (pieceD p) ≤ 3:=by
  have h:=lay_row p.text
  unfold pieceD
  simp only [PyData.canLay0,PyData.canLayAll0,PyData.depth,PyData.depthAll,h.1,Bool.and_self,true_and]
  have:=h.2
  omega
theorem lay_piecesAll : ∀ (a:List Vafmta.Piece),PyData.canLayAll0 (a.map pieceD)=true∧PyData.depthAll (a.map pieceD) ≤ 3
  | []=>by simp [PyData.canLayAll0,PyData.depthAll]
  | x :: a=>by
    have h1:=lay_piecesAll a
    have h2:=lay_piece x
    simp only [List.map_cons,PyData.canLayAll0,PyData.depthAll,h1.1,h2.1,Bool.and_self,true_and]
    have:=h1.2
    have:=h2.2
    omega
theorem shaped_piece (p:Vafmta.Piece):SeqAt.shaped (pieceD p)=true:=shaped_of (lay_piece p).1 (by have:=(lay_piece p).2; omega)
theorem shaped_pieces (l:List Vafmta.Piece):SeqAt.shaped (piecesD l)=true:=by
  have:=lay_piecesAll l
  refine shaped_of ?_ ?_
  · unfold piecesD
    simp only [PyData.canLay0]
    exact this.1
  · unfold piecesD
    simp only [PyData.depth]
    have:=this.2
    omega
def PairAt (N:Addr->Prop) (H:Hp) (x:Addr) (p:Vafmta.Piece):Prop:=∃ r,N r∧H x=some (.tup [.int (Vafmta.kindNo p.kind),.ref r])∧TextAt H r p.text
theorem PairAt.same {N:Addr->Prop}{H H':Hp}{x:Addr}{p:Vafmta.Piece} (h:PairAt N H x p) (s:Same H H'):PairAt N H' x p:=by
  obtain ⟨r,n,h1,h2⟩:=h
  exact ⟨r,n,s _ _ h1,s _ _ h2⟩
theorem dp_pair {K:PySem.W.Frag}{N:Addr->Prop}{H:Hp}{x:Addr}{p:Vafmta.Piece} (h:PairAt N H x p):Dp K H (.ref x) (pieceD p):=by
  obtain ⟨r,n,h1,h2⟩:=h
  exact .tup (SqT.of h1) (.cons (.int _) (.cons (dp_row h2) .nil))
theorem dp_pairsAll {K:PySem.W.Frag}{N:Addr->Prop}{H:Hp}:∀ (rs:List Addr) (ls:List Vafmta.Piece),Ats (PairAt N H) rs ls->DpAll K H (rs.map V.ref) (ls.map pieceD)
  | [],[],_=>.nil
  | [],_ :: _,h=>by have:=h.1; simp at this
  | _ :: _,[],h=>by have:=h.1; simp at this
  | r :: rs,l :: ls,h=>.cons (dp_pair (h.2 0 r l rfl rfl)) (dp_pairsAll rs ls ⟨by have:=h.1; simp at this; exact this,fun i a x h1 h2=>h.2 (i + 1) a x h1 h2⟩)
section
variable {P:Program}{w:World}{K:PySem.W.Frag}{mg:Str->Option Value}{base:Heap}
def sp_tokens_in : Sp:=fun vs H Q _=>∃ (K:PySem.W.Frag) (a:Addr) (t:Vafmta.Bytes),vs=[.ref a]∧TextAt H a t∧t.length ≤ 100000∧∀ l H',Same H H'->(∀ K:PySem.W.Frag,Dp K H' (.ref l) (piecesD (Vafmta.tokenPieces (Vafmta.cut t))))->Q (.ref l) H'
theorem ok_tokens_in (g:Pg K mg):FnOk P w K mg base CX0 6 g.f_tokens_in.a g.f_tokens_in.fd ["text"] sp_tokens_in:=by
  refine g.f_tokens_in.F.ok sc_tokens_in (fun vs H Q E h=>?_) (fun cdv A outer s H vs Q E hr h=>?_)
  · obtain ⟨_,a,t,rfl,_⟩:=h; rfl
  · obtain ⟨_,a,t,rfl,ht,htl,q⟩:=h
    refine ⟨_,(pss_cons (ps_set (i:=1) sc_tokens_in.nd rfl (Or.inl rfl) (pe_make g.Cutter.mk1 (ok_Cutter_init g) (hr.mono (by decide)) rfl g.Cutter.mg g.Cutter.b .nil pass0 (pa_cons (pv 0) pa_nil)))
      (pss_cons (ps_set (i:=2) sc_tokens_in.nd rfl (Or.inl rfl) (pe_lst pa_nil))
      (pss_cons (ps_set (i:=3) sc_tokens_in.nd rfl (Or.inl rfl) pe_int)
      (pss_cons (ps_while PassesOwn.never (pt_cmpR op_lt (pv 3) (pe_callB call_len_seq (by rfl) g.n_len PySem.boot_len (pa_cons (pv 0) pa_nil)) (nomark _)) (pss_cons (ps_set (i:=4) sc_tokens_in.nd rfl (Or.inl rfl) (pe_meth (pv 1) g.Cutter.cl g.m_Cutter_piece_at.m (ok_Cutter_piece_at g) (hr.mono (by decide)) g.m_Cutter_piece_at.b .nil pass0 (pa_cons (pv 3) pa_nil)))
        (pss_cons (ps_if (pt_val (pe_call (ok_is_token g) (hr.mono (by decide)) rfl g.f_is_token.m g.f_is_token.F.kp g.f_is_token.b .nil pass0 (pa_cons (pe_fld (pv 4) rfl) pa_nil))) (pss_one (ps_expr (pe_bm PySem.F.plainAttrs_list PySem.F.slot_list_append PySem.F.type_list_append mt_append (pv 2) (pa_cons (pe_tup (pa_cons (pe_fld (pv 4) rfl) (pa_cons (pe_slice sl_list (pv 0) (po_some (pv 3)) (po_some (pe_op op_add (pv 3) (pe_fld (pv 4) rfl)))) pa_nil))) pa_nil)))) pss_nil)
        (pss_one (ps_aug (i:=3) sc_tokens_in.nd rfl (Or.inl rfl) (pe_fld (pv 4) rfl) ip_add)))))
      (pss_one (ps_ret (pv 2))))))),?_⟩
    refine ⟨_,rfl,?_⟩
    refine mk_Cutter g ht htl fun c d H1 nc nd s1 C1=>?_
    refine ⟨by decide,fun l hl=>?_⟩
    obtain ⟨kv1,hd1,hz1⟩:=C1.dic
    have hld:l ≠ d:=Ne.symm (ne_of_none hd1 hl)
    have hlH:H l=none:=s1.free hl
    refine ⟨fun m σ H'=>∃ (n:Nat) (as:List Addr) (ps:List Vafmta.Piece) (v:Option V),σ=[some (.ref a),some (.ref c),some (.ref l),some (.int (n:Int)),v]∧Same H H'∧CutterAt g H' c a d t∧H' l=some (.lst (as.map V.ref))∧Ats (PairAt (fun b=>b ≠ l) H') as ps ∧
      Vafmta.tokenPieces (Vafmta.cut t)=ps ++ Vafmta.tokenPieces (Vafmta.cut (t.drop n))∧n ≤ t.length∧ps.length ≤ n∧m=t.length - n,⟨_,0,[],[],none,rfl,s1.trans (same_new hl),C1.same (same_new hl),upd_same,.nil,rfl,Nat.zero_le _,Nat.le_refl _,rfl⟩,?_⟩
    rintro m σ H2 ⟨n,as,ps,v,rfl,s2,C2,hl2,ha2,et,hn,hps,rfl⟩
    obtain ⟨dc,ho2⟩:=C2.obj
    obtain ⟨kv2,hd2,hz2⟩:=C2.dic
    refine ⟨_,rfl,_,rfl,_,_,rfl,.inl (SqL.of C2.txt),_,_,rfl,rfl,_,rfl,ite2 (fun h=>?_) (fun h=>?_)⟩
    · have hlt:=of_decide_eq_true h
      rw [bV_len] at hlt
      obtain ⟨ch,hc,ed⟩:=Cm.drop_lt (t:=t) (n:=n) (by omega)
      have ecs:=Cm.cut_step hc
      have hle:=Cm.head_le hc
      refine ⟨_,fun _ _ z=>z,?_⟩
      refine ⟨_,rfl,rm_Cutter_piece_at g ho2 ⟨_,rfl,c,a,d,t,n,ch,rfl,C2,hc,fun x H3 b3 nx p3 C3=>?_⟩⟩
      have hl3:=b3 _ _ hl2 hld
      have s3:Same H H3:=b3.same s2 nd
      have ha3:Ats (PairAt (fun b=>b ≠ l) H3) as ps:=ha2.imp fun y p ⟨r,n1,h1,h2⟩=>⟨r,n1,b3 _ _ h1 (ne_of h1 hd2 (by intro z; cases z)),b3 _ _ h2 (ne_of h2 hd2 (by intro z; cases z))⟩
      obtain ⟨dp,hp⟩:=id p3
      refine ⟨_,rfl,rf_Piece_kind g hp ⟨_,rfl,_,rfl,?_⟩⟩
      rw [Cm.kindNo_tok]
      refine ite2 (fun htok=>?_) (fun htok=>?_)
      · rw [if_pos htok] at ecs
        refine ⟨_,rfl,.inl ⟨rfl,_,SqL.of hl3⟩,_,rfl,rf_Piece_kind g hp ⟨_,rfl,_,rfl,_,rfl,_,rfl,_,rfl,rf_Piece_size g hp ⟨_,_,rfl,rfl,_,rfl,a,_,rfl,SqL.of C3.txt,fun r hr'=>?_⟩⟩⟩
        have ecut:cutV (bV t) (some (n:Int)) (some ((n:Int) + ((MC.head ch (t.drop (n + 1))).text.length:Int)))=bV (MC.head ch (t.drop (n + 1))).text:=by
          have:=cut_mid (xs:=bV t) (a:=n) (b:=n + (MC.head ch (t.drop (n + 1))).text.length) (by omega) (by rw [bV_len]; omega)
          rw [bV_drop,bV_take,show n + (MC.head ch (t.drop (n + 1))).text.length - n=(MC.head ch (t.drop (n + 1))).text.length by omega,← Cm.head_text hc] at this
          exact this
        generalize e4:upd H3 r (.lst (cutV (bV t) (some (n:Int)) (some ((n:Int) + ((MC.head ch (t.drop (n + 1))).text.length:Int)))))=H4
        have s4:Same H3 H4:=by rw [← e4]; exact same_new hr'
        have hr4:TextAt H4 r (MC.head ch (t.drop (n + 1))).text:=by rw [← e4,ecut]; exact upd_same
        have hrl:r ≠ l:=Ne.symm (ne_of_none hl3 hr')
        refine ⟨(by show 2 ≤ sizeLine; decide),fun pp hpp=>?_⟩
        generalize e5:upd H4 pp (.tup [.int (Vafmta.kindNo (MC.head ch (t.drop (n + 1))).kind),.ref r])=H5
        have s5:Same H4 H5:=by rw [← e5]; exact same_new hpp
        have s35:=s4.trans s5
        have hp5:H5 pp=some (.tup [.int (Vafmta.kindNo (MC.head ch (t.drop (n + 1))).kind),.ref r]):=by rw [← e5]; exact upd_same
        have hl5:=s35 _ _ hl3
        refine ⟨l,_,_,rfl,rfl,hl5,lim1 (k:=100000) (by rw [List.length_map,ha2.1]; omega),?_⟩
        generalize e6:upd H5 l (.lst (as.map V.ref ++ [.ref pp]))=H6
        have keep:∀ b o,H5 b=some o->b ≠ l->H6 b=some o:=fun b o hb hne=>by rw [← e6,upd_ne hne]; exact hb
        have s6:Same H H6:=by rw [← e6]; exact same_upd (s3.trans s35) hlH
        have hp6:=keep _ _ (s35 _ _ hp) (ins_lst (s35 _ _ hp) hl5)
        refine ⟨_,rfl,_,rfl,rf_Piece_size g hp6 ⟨_,_,rfl,rfl,?_⟩⟩
        have C5:=C3.same s35
        have C6:CutterAt g H6 c a d t:=by
          obtain ⟨⟨dy,h1⟩,h2,⟨kv,h3,h4⟩,h5⟩:=C5
          exact ⟨⟨dy,keep _ _ h1 (ins_lst h1 hl5)⟩,s6 _ _ ht,⟨kv,keep _ _ h3 (Ne.symm hld),h4⟩,h5⟩
        refine ⟨t.length - (n + (MC.head ch (t.drop (n + 1))).text.length),by omega,n + (MC.head ch (t.drop (n + 1))).text.length,as ++ [pp],ps ++ [MC.head ch (t.drop (n + 1))],_,rfl,s6,C6,?_,?_,?_,by omega,by rw [List.length_append]; simp; omega,rfl⟩
        · rw [← e6,upd_same,List.map_append]
          rfl
        · refine Ats.snoc (ha3.imp fun y p ⟨r,n1,h1,h2⟩=>⟨r,n1,keep _ _ (s35 _ _ h1) (ne_of (s35 _ _ h1) hl5 (by intro z; cases z)),keep _ _ (s35 _ _ h2) n1⟩) ⟨r,hrl,keep _ _ hp5 (ne_of hp5 hl5 (by intro z; cases z)),keep _ _ (s5 _ _ hr4) hrl⟩
        · rw [et,ecs,List.append_assoc]
      · rw [if_neg htok,List.nil_append] at ecs
        refine ⟨_,rfl,_,rfl,rf_Piece_size g hp ⟨_,_,rfl,rfl,?_⟩⟩
        exact ⟨t.length - (n + (MC.head ch (t.drop (n + 1))).text.length),by omega,n + (MC.head ch (t.drop (n + 1))).text.length,as,ps,_,rfl,s3,C3,hl3,ha3,by rw [et,ecs],by omega,by omega,rfl⟩
    · have hlt:¬ (n:Int) < (bV t).length:=fun z=>h (decide_eq_true z)
      rw [bV_len] at hlt
      rw [List.drop_eq_nil_of_le (show t.length ≤ n by omega)] at et
      refine ⟨_,rfl,q l H2 s2 fun K'=>?_⟩
      rw [et,show Vafmta.tokenPieces (Vafmta.cut [])=[] from rfl,List.append_nil]
      exact .lst (SqL.of hl2) (dp_pairsAll as ps ha2)
structure WrAt (g:Pg K mg) (H0 H:Hp) (wr tx tk bg:Addr) (atk:List Addr) (m:MC.W):Prop where
  base:Same H0 H
  obj:∃ dx,H wr=some (.ins g.Written.C dx (fWritten tx tk bg (Cm.oqI m.oq)))
  n0:H0 wr=none∧H0 tx=none∧H0 tk=none∧H0 bg=none
  ne:tx ≠ tk∧tx ≠ bg∧tk ≠ bg
  ltx:TextAt H tx m.text
  ltk:H tk=some (.lst (atk.map V.ref))
  lbg:H bg=some (.lst (nV m.begins))
  toks:Ats (PairAt (fun _=>True) H0) atk m.toks
theorem WrAt.same {g:Pg K mg}{H0 H H':Hp}{wr tx tk bg:Addr}{atk:List Addr}{m:MC.W} (h:WrAt g H0 H wr tx tk bg atk m) (s:Same H H'):WrAt g H0 H' wr tx tk bg atk m:=by
  obtain ⟨dx,ho⟩:=h.obj
  exact ⟨h.base.trans s,⟨dx,s _ _ ho⟩,h.n0,h.ne,s _ _ h.ltx,s _ _ h.ltk,s _ _ h.lbg,h.toks⟩
def sp_Written_init (g:Pg K mg):Sp:=fun vs H Q _=>∃ (p dx:Addr),vs=[.ref p]∧H p=some (.ins g.Written.C dx [])∧∀ tx tk bg H',But p H H'->H tx=none->H tk=none->H bg=none->tx ≠ tk->tx ≠ bg->tk ≠ bg->H' tx=some (.lst [])->H' tk=some (.lst [])->H' bg=some (.lst [])->H' p=some (.ins g.Written.C dx (fWritten tx tk bg (-1)))->Q .non H'
theorem ok_Written_init (g:Pg K mg):FnOk P w K mg base CX0 1 g.Written.a g.Written.fd ["self"] (sp_Written_init g):=by
  refine g.Written.F.ok sc_Written_init (fun vs H Q E h=>?_) (fun cdv A outer s H vs Q E hr h=>?_)
  · obtain ⟨p,dx,rfl,_⟩:=h; rfl
  · obtain ⟨p,dx,rfl,hp,q⟩:=h
    refine ⟨_,(pss_cons (ps_fld (pv 0) (pe_lst pa_nil) rfl)
      (pss_cons (ps_fld (pv 0) (pe_lst pa_nil) rfl)
      (pss_cons (ps_fld (pv 0) (pe_lst pa_nil) rfl)
      (pss_one (ps_fld (pv 0) (pe_un un_neg pe_int) rfl))))),?_⟩
    refine ⟨by decide,fun tx htx=>?_⟩
    have ptx:p ≠ tx:=ne_of_none hp htx
    refine ⟨_,rfl,fsto (by rw [upd_ne ptx]; exact hp) g.Written.cl (g.Written.na _ (by decide +kernel)) (by simp) (pi_Written_text (x1:=tx) (x2:=tx) (x3:=0)) ?_⟩
    refine ⟨by decide,fun tk htk=>?_⟩
    have ptk:p ≠ tk:=fun e=>by rw [← e,upd_same] at htk; cases htk
    rw [upd_ne (Ne.symm ptk)] at htk
    have xk:tx ≠ tk:=fun e=>by rw [← e,upd_same] at htk; cases htk
    rw [upd_ne (Ne.symm xk)] at htk
    refine ⟨_,rfl,fsto (by rw [upd_ne ptk]; exact upd_same) g.Written.cl (g.Written.na _ (by decide +kernel)) (by simp) (pi_Written_tokens (x2:=tx) (x3:=0)) ?_⟩
    refine ⟨by decide,fun bg hbg=>?_⟩
    have pbg:p ≠ bg:=fun e=>by rw [← e,upd_same] at hbg; cases hbg
    rw [upd_ne (Ne.symm pbg)] at hbg
    have kb:tk ≠ bg:=fun e=>by rw [← e,upd_same] at hbg; cases hbg
    rw [upd_ne (Ne.symm kb),upd_ne (Ne.symm pbg)] at hbg
    have xb:tx ≠ bg:=fun e=>by rw [← e,upd_same] at hbg; cases hbg
    rw [upd_ne (Ne.symm xb)] at hbg
    refine ⟨_,rfl,fsto (by rw [upd_ne pbg]; exact upd_same) g.Written.cl (g.Written.na _ (by decide +kernel)) (by simp) (pi_Written_begins (x3:=0)) ?_⟩
    refine ⟨_,rfl,_,rfl,fsto upd_same g.Written.cl (g.Written.na _ (by decide +kernel)) (by simp) pi_Written_open_quote ?_⟩
    rw [upd_upd]
    refine q tx tk bg _ ?_ htx htk hbg xk xb kb ?_ ?_ ?_ upd_same
    · intro b o hb hne
      rw [upd_ne hne,upd_ne (ne_of_none hb hbg),upd_ne hne,upd_ne (ne_of_none hb htk),upd_ne hne,upd_ne (ne_of_none hb htx)]
      exact hb
    · rw [upd_ne (Ne.symm ptx),upd_ne xb,upd_ne (Ne.symm ptx),upd_ne xk,upd_ne (Ne.symm ptx)]
      exact upd_same
    · rw [upd_ne (Ne.symm ptk),upd_ne kb,upd_ne (Ne.symm ptk)]
      exact upd_same
    · rw [upd_ne (Ne.symm pbg)]
      exact upd_same
theorem mk_Written (g:Pg K mg) {H:Hp}{R:Addr->Hp->Prop}{E:XK} (h:∀ wr tx tk bg H',WrAt g H H' wr tx tk bg [] MC.W.start->R wr H'):∀ x dx,H x=none->H dx=none->dx ≠ x →
    sp_Written_init g (.ref x :: ([] ++ [])) (upd (upd H dx (.own x)) x (.ins g.Written.C dx [])) (fun v H2=>v = .non∧R x H2) E:=fun x dx nx nd ne=>by
  have s1:Same H (upd (upd H dx (.own x)) x (.ins g.Written.C dx [])):=same_new2 nx nd
  exact ⟨x,dx,rfl,upd_same,fun tx tk bg H' b n1 n2 n3 e1 e2 e3 h1 h2 h3 h4=>⟨rfl,h x tx tk bg H' ⟨b.same s1 nx,⟨dx,h4⟩,⟨nx,s1.free n1,s1.free n2,s1.free n3⟩,⟨e1,e2,e3⟩,h1,h2,h3,.nil⟩⟩⟩
def sp_Written_first_unsure (g:Pg K mg):Sp:=fun vs H Q _=>∃ (H0:Hp) (wr tx tk bg x:Addr) (atk:List Addr) (m:MC.W) (p:Vafmta.Piece),vs=[.ref wr,.ref x]∧WrAt g H0 H wr tx tk bg atk m∧PairAt (fun _=>True) H0 x p∧Q (.int (m.unsure p:Nat)) H
theorem ok_Written_first_unsure (g:Pg K mg):FnOk P w K mg base CX0 1 g.m_Written_first_unsure.a g.m_Written_first_unsure.fd ["self","token"] (sp_Written_first_unsure g):=by
  refine g.m_Written_first_unsure.F.ok sc_Written_first_unsure (fun vs H Q E h=>?_) (fun cdv A outer s H vs Q E hr h=>?_)
  · obtain ⟨H0,wr,tx,tk,bg,x,atk,m,p,rfl,_⟩:=h; rfl
  · obtain ⟨H0,wr,tx,tk,bg,x,atk,m,p,rfl,W,⟨r,_,hx0,hr0⟩,q⟩:=h
    refine ⟨_,(pss_cons (ps_set (i:=2) sc_Written_first_unsure.nd rfl (Or.inl rfl) (pe_callB (call_max2 rfl) (by rfl) g.n_max PyProof.Rows.boot_max (pa_cons (pe_op op_sub (pe_callB call_len_seq (by rfl) g.n_len PySem.boot_len (pa_cons (pe_fld (pv 0) rfl) pa_nil)) pe_int) (pa_cons pe_int pa_nil))))
      (pss_cons (ps_if (PW.pt (pw_and (pt_cmpR op_ge (pe_fld (pv 0) rfl) pe_int (nomark _)) (pw_and1 (pt_cmpR op_in_seq (pe_gint rfl g.g_QUOTE_BYTE) (pe_ix ix_tup (pv 1) pe_int (fun _ _=>rfl)) (by rfl))))) (pss_one (ps_set (i:=2) sc_Written_first_unsure.nd rfl (Or.inl rfl) (pe_callB (call_min2 rfl) (by rfl) g.n_min PyProof.Rows.boot_min (pa_cons (pv 2) (pa_cons (pe_fld (pv 0) rfl) pa_nil))))) pss_nil)
      (pss_one (ps_ret (pv 2))))),?_⟩
    obtain ⟨dx,ho⟩:=W.obj
    have hx:=W.base _ _ hx0
    have hrt:=W.base _ _ hr0
    refine ⟨_,rfl,rf_Written_tokens g ho ⟨_,_,rfl,.inl (SqL.of W.ltk),_,_,rfl,rfl,_,_,rfl,?_⟩⟩
    have hl:(atk.map V.ref).length=m.toks.length:=by rw [List.length_map,W.toks.1]
    have em:(if (0:Int) > ((atk.map V.ref).length:Int) - 2 then (0:Int) else ((atk.map V.ref).length:Int) - 2)=((m.toks.length - 2:Nat):Int):=by
      rw [hl]
      split <;> omega
    show tSeq _ _ _ [some (.ref wr),some (.ref x),some (.int (if (0:Int) > ((atk.map V.ref).length:Int) - 2 then (0:Int) else ((atk.map V.ref).length:Int) - 2))] H
    rw [em]
    have plain:(m.oq=none ∨ Vafmta.QUOTE ∉ p.text)->Q (.int ((m.toks.length - 2:Nat):Int)) H:=fun h=>by rw [Cm.unsure_none h] at q; exact q
    refine ⟨_,rfl,rf_Written_open_quote g ho ⟨_,_,rfl,rfl,_,rfl,ite2 (fun h=>?_) (fun h=>?_)⟩⟩
    · obtain ⟨k,ek,ei⟩:=Cm.oqI_some (of_decide_eq_true h)
      refine ⟨_,rfl,x,_,_,V.ref r,rfl,rfl,SqT.of hx,rfl,_,_,rfl,.inl (SqL.of hrt),rfl,?_,_,rfl,?_⟩
      · rw [List.all_eq_true]
        intro v hv
        unfold bV at hv
        obtain ⟨b,_,rfl⟩:=List.mem_map.mp hv
        rfl
      have ein:(if false then !inV (V.int 34) (bV p.text) else inV (V.int 34) (bV p.text))=decide (Vafmta.QUOTE ∈ p.text):=by
        rw [← Cm.mem_quote]
        show inV (V.int 34) (bV p.text)=_
        unfold inV bV
        rw [List.any_map]
        rfl
      rw [ein]
      refine ite2 (fun h1=>?_) (fun h1=>?_)
      · have hq:=of_decide_eq_true h1
        refine ⟨_,rfl,_,rfl,rf_Written_open_quote g ho ⟨_,_,rfl,?_⟩⟩
        refine ⟨_,rfl,?_⟩
        rw [Cm.unsure_some ek hq] at q
        have e2:(if Cm.oqI m.oq < ((m.toks.length - 2:Nat):Int) then Cm.oqI m.oq else ((m.toks.length - 2:Nat):Int))=((min (m.toks.length - 2) k:Nat):Int):=by
          rw [ei]
          split <;> omega
        show Q (.int (if Cm.oqI m.oq < ((m.toks.length - 2:Nat):Int) then Cm.oqI m.oq else ((m.toks.length - 2:Nat):Int))) H
        rw [e2]
        exact q
      · exact ⟨_,rfl,plain (.inr fun z=>h1 (decide_eq_true z))⟩
    · refine iteF ⟨_,rfl,plain (.inl (Cm.oqI_neg fun z=>h (decide_eq_true z)))⟩
def sp_Written_fits (g:Pg K mg):Sp:=fun vs H Q _=>∃ (H0:Hp) (wr tx tk bg x bl:Addr) (atk:List Addr) (m:MC.W) (p:Vafmta.Piece) (btw:Vafmta.Bytes),vs=[.ref wr,.ref bl,.ref x]∧WrAt g H0 H wr tx tk bg atk m∧MC.WInv m∧PairAt (fun _=>True) H0 x p∧TextAt H bl btw ∧
  m.text.length ≤ 30000∧p.text.length ≤ 20000∧btw.length ≤ 10∧m.toks.length ≤ 1000∧∀ H',Same H H'->Q (.bl (decide (m.fits btw p))) H'
theorem ok_Written_fits (g:Pg K mg):FnOk P w K mg base CX0 7 g.m_Written_fits.a g.m_Written_fits.fd ["self","between","token"] (sp_Written_fits g):=by
  refine g.m_Written_fits.F.ok sc_Written_fits (fun vs H Q E h=>?_) (fun cdv A outer s H vs Q E hr h=>?_)
  · obtain ⟨H0,wr,tx,tk,bg,x,bl,atk,m,p,btw,rfl,_⟩:=h; rfl
  · obtain ⟨H0,wr,tx,tk,bg,x,bl,atk,m,p,btw,rfl,W,I,hpx,hbl,l1,l2,l3,l4,q⟩:=h
    refine ⟨_,(pss_cons (ps_set (i:=3) sc_Written_fits.nd rfl (Or.inl rfl) (pe_meth (pv 0) g.Written.cl g.m_Written_first_unsure.m (ok_Written_first_unsure g) (hr.mono (by decide)) g.m_Written_first_unsure.b .nil pass0 (pa_cons (pv 2) pa_nil)))
      (pss_cons (ps_set (i:=4) sc_Written_fits.nd rfl (Or.inl rfl) (pe_ifExp (pt_cmpR op_lt (pv 3) (pe_callB call_len_seq (by rfl) g.n_len PySem.boot_len (pa_cons (pe_fld (pv 0) rfl) pa_nil)) (nomark _)) (pe_ix ix_list (pe_fld (pv 0) rfl) (pv 3) (fun _ _=>rfl)) pe_int))
      (pss_cons (ps_set (i:=5) sc_Written_fits.nd rfl (Or.inl rfl) (pe_op op_cat (pe_op op_cat (pe_slice sl_list (pe_fld (pv 0) rfl) (po_some (pv 4)) po_none) (pv 1)) (pe_ix ix_tup (pv 2) pe_int (fun _ _=>rfl))))
      (pss_one (ps_ret (pe_cmpR (op_eqD hr.units) (pe_call (ok_tokens_in g) (hr.mono (by decide)) rfl g.f_tokens_in.m g.f_tokens_in.F.kp g.f_tokens_in.b .nil pass0 (pa_cons (pv 5) pa_nil)) (pe_op op_cat (pe_slice sl_list (pe_fld (pv 0) rfl) (po_some (pv 3)) po_none) (pe_lst (pa_cons (pv 2) pa_nil))) (nomark _))))))),?_⟩
    obtain ⟨dx,ho⟩:=W.obj
    obtain ⟨r,_,hx0,hr0⟩:=id hpx
    have hx:=W.base _ _ hx0
    have hrt:=W.base _ _ hr0
    refine ⟨_,rfl,rm_Written_first_unsure g ho ⟨_,rfl,H0,wr,tx,tk,bg,x,atk,m,p,rfl,W,hpx,?_⟩⟩
    have hle:=MC.unsure_le m p
    have hpl:=Cm.place_le I p
    have rest:tSeq (tAsg (tOp rCat (tOp rCat (tSl (rSlL K) (tFld K (tVar 0) "text") (tPart (tVar 4)) tNoPart) (tVar 1)) (tOp (rIxT K) (tVar 2) (tC (.int 1)))) (gName 5))
        (tRet (tOp (rEqD K) (tCall sp_tokens_in [] E0 (tCons (tVar 5) tNil)) (tOp rCat (tSl (rSlL K) (tFld K (tVar 0) "tokens") (tPart (tVar 3)) tNoPart) (tLst (tCons (tVar 2) tNil))))) { nx:=fun _ H'=>Q .non H',rt:=Q }
        [some (.ref wr),some (.ref bl),some (.ref x),some (.int (m.unsure p:Nat)),some (.int (m.place p:Nat)),none] H:=by
      refine ⟨_,rfl,rf_Written_text g ho ⟨_,rfl,_,rfl,tx,_,rfl,SqL.of W.ltx,fun p1 hp1=>?_⟩⟩
      rw [cut_right (by rw [bV_len]; exact hpl),bV_drop]
      generalize e1:upd H p1 (.lst (bV (m.text.drop (m.place p))))=H1
      have s1:Same H H1:=by rw [← e1]; exact same_new hp1
      have h1:H1 p1=some (.lst (bV (m.text.drop (m.place p)))):=by rw [← e1]; exact upd_same
      refine ⟨_,rfl,p1,bl,_,_,rfl,rfl,h1,s1 _ _ hbl,lim (k:=100000) (by rw [bV_len,bV_len,List.length_drop]; omega),fun p2 hp2=>?_⟩
      rw [← bV_append]
      generalize e2:upd H1 p2 (.lst (bV (m.text.drop (m.place p) ++ btw)))=H2
      have s2:Same H1 H2:=by rw [← e2]; exact same_new hp2
      have h2:H2 p2=some (.lst (bV (m.text.drop (m.place p) ++ btw))):=by rw [← e2]; exact upd_same
      have s12:=s1.trans s2
      refine ⟨_,rfl,x,_,_,V.ref r,rfl,rfl,SqT.of (s12 _ _ hx),rfl,p2,r,_,_,rfl,rfl,h2,s12 _ _ hrt,lim (k:=100000) (by rw [bV_len,bV_len,List.length_append,List.length_drop]; omega),fun p3 hp3=>?_⟩
      rw [← bV_append,List.append_assoc]
      generalize e3:upd H2 p3 (.lst (bV (m.text.drop (m.place p) ++ (btw ++ p.text))))=H3
      have s3:Same H2 H3:=by rw [← e3]; exact same_new hp3
      have h3:TextAt H3 p3 (m.text.drop (m.place p) ++ (btw ++ p.text)):=by rw [← e3]; exact upd_same
      have s13:=s12.trans s3
      refine ⟨_,rfl,K,p3,_,rfl,h3,by rw [List.length_append,List.length_append,List.length_drop]; omega,fun l H4 s4 hd4=>?_⟩
      have s14:=s13.trans s4
      have hal:(atk.map V.ref).length=m.toks.length:=by rw [List.length_map,W.toks.1]
      refine ⟨_,rfl,rf_Written_tokens g (s14 _ _ ho) ⟨_,rfl,_,rfl,tk,_,rfl,SqL.of (s14 _ _ W.ltk),fun p5 hp5=>?_⟩⟩
      rw [cut_right (by rw [hal]; omega),← List.map_drop]
      generalize e5:upd H4 p5 (.lst ((atk.drop (m.unsure p)).map V.ref))=H5
      have s5:Same H4 H5:=by rw [← e5]; exact same_new hp5
      have h5:H5 p5=some (.lst ((atk.drop (m.unsure p)).map V.ref)):=by rw [← e5]; exact upd_same
      refine ⟨_,rfl,(by show 1 ≤ sizeLine; decide),fun p6 hp6=>?_⟩
      generalize e6:upd H5 p6 (.lst [.ref x])=H6
      have s6:Same H5 H6:=by rw [← e6]; exact same_new hp6
      have h6:H6 p6=some (.lst [.ref x]):=by rw [← e6]; exact upd_same
      refine ⟨p5,p6,_,_,rfl,rfl,s6 _ _ h5,h6,lim (k:=100000) (by rw [List.length_map,List.length_drop,W.toks.1]; simp; omega),fun p7 hp7=>?_⟩
      have s7:=same_new (o:=.lst ((atk.drop (m.unsure p)).map V.ref ++ [.ref x])) hp7
      have sA:=(s5.trans s6).trans s7
      have sAll:Same H0 _:=((W.base.trans s14).trans sA)
      refine ⟨_,_,dp_same sA _ _ (hd4 K),?_,shaped_pieces _,shaped_pieces (m.toks.drop (m.unsure p) ++ [p]),?_⟩
      · refine .lst (xs:=(atk.drop (m.unsure p) ++ [x]).map V.ref) (SqL.of (by rw [upd_same,List.map_append]; rfl)) ?_
        exact dp_pairsAll (N:=fun _=>True) _ _ (((W.toks.drop _).snoc hpx).imp fun a k z=>z.same sAll)
      · rw [eqv_pieces]
        exact q _ (s14.trans sA)
    have hbl2:(nV m.begins).length=m.begins.length:=nV_len _
    refine ⟨_,rfl,_,rfl,rf_Written_begins g ho ⟨_,_,rfl,.inl (SqL.of W.lbg),_,_,rfl,rfl,_,rfl,ite2 (fun h=>?_) (fun h=>?_)⟩⟩
    · have hlt:=of_decide_eq_true h
      rw [nV_len] at hlt
      obtain ⟨b,hb⟩:∃ b,m.begins[m.unsure p]?=some b:=⟨_,List.getElem?_eq_getElem (by omega)⟩
      have hb':(nV m.begins)[m.unsure p]?=some (.int (b:Int)):=by unfold nV; rw [List.getElem?_map,hb]; rfl
      have ep:m.place p=b:=by unfold MC.W.place; rw [hb]; rfl
      refine ⟨_,rfl,rf_Written_begins g ho ⟨_,rfl,bg,_,_,_,rfl,rfl,SqL.of W.lbg,atI_nat hb',?_⟩⟩
      rw [ep] at rest
      exact rest
    · have hlt:¬ ((m.unsure p:Nat):Int) < ((nV m.begins).length:Int):=fun z=>h (decide_eq_true z)
      rw [nV_len] at hlt
      have ep:m.place p=0:=by unfold MC.W.place; rw [List.getElem?_eq_none (by omega)]; rfl
      rw [ep] at rest
      exact rest
end
end Cb
end
section
set_option maxRecDepth 100000
set_option maxHeartbeats 4000000
namespace Cb
open PySem PySem.Spec PyProof.Rows L2
open Cm (bi)
section
variable {P:Program}{w:World}{K:PySem.W.Frag}{mg:Str->Option Value}{base:Heap}
def sp_Written_write (g:Pg K mg):Sp:=fun vs H Q _=>∃ (H0:Hp) (wr tx tk bg x bl:Addr) (atk:List Addr) (m:MC.W) (p:Vafmta.Piece) (btw:Vafmta.Bytes),vs=[.ref wr,.ref bl,.ref x]∧WrAt g H0 H wr tx tk bg atk m∧PairAt (fun _=>True) H0 x p∧TextAt H bl btw ∧
  m.begins.length=m.toks.length∧m.text.length ≤ 30000∧p.text.length ≤ 20000∧btw.length ≤ 10∧m.toks.length ≤ 1000∧∀ H',WrAt g H0 H' wr tx tk bg (atk ++ [x]) (m.write btw p)->Q .non H'
theorem ok_Written_write (g:Pg K mg):FnOk P w K mg base CX0 1 g.m_Written_write.a g.m_Written_write.fd ["self","between","token"] (sp_Written_write g):=by
  refine g.m_Written_write.F.ok sc_Written_write (fun vs H Q E h=>?_) (fun cdv A outer s H vs Q E hr h=>?_)
  · obtain ⟨H0,wr,tx,tk,bg,x,bl,atk,m,p,btw,rfl,_⟩:=h; rfl
  · obtain ⟨H0,wr,tx,tk,bg,x,bl,atk,m,p,btw,rfl,W,hpx,hbl,hbt,l1,l2,l3,l4,q⟩:=h
    refine ⟨_,(pss_cons (ps_if (pt_cmpR (op_eqD hr.units) (pv 2) (pe_tup (pa_cons (pe_gint rfl g.g_ODD) (pa_cons (pe_lst (pa_cons (pe_gint rfl g.g_QUOTE_BYTE) pa_nil)) pa_nil))) (nomark _)) (pss_one (ps_fld (pv 0) (pe_callB call_len_seq (by rfl) g.n_len PySem.boot_len (pa_cons (pe_fld (pv 0) rfl) pa_nil)) rfl)) pss_nil)
      (pss_cons (ps_expr (pe_bm PySem.F.plainAttrs_list PySem.F.slot_list_extend PySem.F.type_list_extend mt_extend (pe_fld (pv 0) rfl) (pa_cons (pv 1) pa_nil)))
      (pss_cons (ps_expr (pe_bm PySem.F.plainAttrs_list PySem.F.slot_list_append PySem.F.type_list_append mt_append (pe_fld (pv 0) rfl) (pa_cons (pe_callB call_len_seq (by rfl) g.n_len PySem.boot_len (pa_cons (pe_fld (pv 0) rfl) pa_nil)) pa_nil)))
      (pss_cons (ps_expr (pe_bm PySem.F.plainAttrs_list PySem.F.slot_list_extend PySem.F.type_list_extend mt_extend (pe_fld (pv 0) rfl) (pa_cons (pe_ix ix_tup (pv 2) pe_int (fun _ _=>rfl)) pa_nil)))
      (pss_one (ps_expr (pe_bm PySem.F.plainAttrs_list PySem.F.slot_list_append PySem.F.type_list_append mt_append (pe_fld (pv 0) rfl) (pa_cons (pv 2) pa_nil)))))))),?_⟩
    obtain ⟨dx,ho⟩:=W.obj
    obtain ⟨r,_,hx0,hr0⟩:=id hpx
    have hal:atk.length=m.toks.length:=W.toks.1
    have rest:∀ (H1:Hp) (oq':Option Nat),WrAt g H0 H1 wr tx tk bg atk { m with oq:=oq' }->TextAt H1 bl btw->(oq'=if p=MC.oddQ then some m.toks.length else m.oq) →
        tSeq (tDrop (tBM K "list" rExtend (tFld K (tVar 0) "text") (tCons (tVar 1) tNil)))
          (tSeq (tDrop (tBM K "list" rAppend (tFld K (tVar 0) "begins") (tCons (tCB (fun xs H Q=>∃ p ys,xs=[.ref p]∧(SqL K H p ys ∨ SqT K H p ys)∧Q (.int ys.length) H) (tCons (tFld K (tVar 0) "text") tNil)) tNil)))
          (tSeq (tDrop (tBM K "list" rExtend (tFld K (tVar 0) "text") (tCons (tOp (rIxT K) (tVar 2) (tC (.int 1))) tNil)))
          (tDrop (tBM K "list" rAppend (tFld K (tVar 0) "tokens") (tCons (tVar 2) tNil))))) { nx:=fun _ H'=>Q .non H',rt:=Q } [some (.ref wr),some (.ref bl),some (.ref x)] H1:=by
      intro H1 oq' W1 hbl1 eoq
      obtain ⟨d1,ho1⟩:=W1.obj
      have wr_tx:wr ≠ tx:=ins_lst ho1 W1.ltx
      have wr_tk:wr ≠ tk:=ins_lst ho1 W1.ltk
      have wr_bg:wr ≠ bg:=ins_lst ho1 W1.lbg
      have ltx1:H1 tx=some (.lst (bV m.text)):=W1.ltx
      have lbg1:H1 bg=some (.lst (nV m.begins)):=W1.lbg
      refine ⟨_,rfl,rf_Written_text g ho1 ⟨.inl ⟨rfl,_,SqL.of ltx1⟩,_,rfl,tx,bl,_,_,rfl,rfl,ltx1,hbl1,lim (k:=100000) (by rw [bV_len,bV_len]; omega),?_⟩⟩
      rw [← bV_append]
      generalize e2:upd H1 tx (.lst (bV (m.text ++ btw)))=H2
      have k2:∀ b o,H1 b=some o->b ≠ tx->H2 b=some o:=fun b o hb hne=>by rw [← e2,upd_ne hne]; exact hb
      have ltx2:H2 tx=some (.lst (bV (m.text ++ btw))):=by rw [← e2]; exact upd_same
      have ho2:=k2 _ _ ho1 wr_tx
      have lbg2:=k2 _ _ lbg1 (Ne.symm W.ne.2.1)
      refine ⟨_,rfl,rf_Written_begins g ho2 ⟨.inl ⟨rfl,_,SqL.of lbg2⟩,_,rfl,rf_Written_text g ho2 ⟨tx,_,rfl,.inl (SqL.of ltx2),bg,_,_,rfl,rfl,lbg2,lim1 (k:=10000) (by rw [nV_len,hbt]; omega),?_⟩⟩⟩
      generalize e3:upd H2 bg (.lst (nV m.begins ++ [.int ((bV (m.text ++ btw)).length:Int)]))=H3
      have k3:∀ b o,H2 b=some o->b ≠ bg->H3 b=some o:=fun b o hb hne=>by rw [← e3,upd_ne hne]; exact hb
      have lbg3:H3 bg=some (.lst (nV (m.begins ++ [m.text.length + btw.length]))):=by rw [← e3,upd_same,nV_append,bV_len,List.length_append]; rfl
      have ho3:=k3 _ _ ho2 wr_bg
      have ltx3:=k3 _ _ ltx2 W.ne.2.1
      have b3:Same H0 H3:=fun b o hb=>k3 b o (k2 b o (W1.base b o hb) (ne_of_none hb W.n0.2.1)) (ne_of_none hb W.n0.2.2.2)
      refine ⟨_,rfl,rf_Written_text g ho3 ⟨.inl ⟨rfl,_,SqL.of ltx3⟩,_,rfl,x,_,_,V.ref r,rfl,rfl,SqT.of (b3 _ _ hx0),rfl,tx,r,_,_,rfl,rfl,ltx3,b3 _ _ hr0,lim (k:=100000) (by rw [bV_len,bV_len,List.length_append]; omega),?_⟩⟩
      rw [← bV_append,List.append_assoc]
      generalize e4:upd H3 tx (.lst (bV (m.text ++ (btw ++ p.text))))=H4
      have k4:∀ b o,H3 b=some o->b ≠ tx->H4 b=some o:=fun b o hb hne=>by rw [← e4,upd_ne hne]; exact hb
      have ltx4:H4 tx=some (.lst (bV (m.text ++ (btw ++ p.text)))):=by rw [← e4]; exact upd_same
      have ho4:=k4 _ _ ho3 wr_tx
      have lbg4:=k4 _ _ lbg3 (Ne.symm W.ne.2.1)
      have ltk4:=k4 _ _ (k3 _ _ (k2 _ _ W1.ltk (Ne.symm W.ne.1)) W.ne.2.2) (Ne.symm W.ne.1)
      refine ⟨_,rfl,rf_Written_tokens g ho4 ⟨.inl ⟨rfl,_,SqL.of ltk4⟩,_,rfl,tk,_,_,rfl,rfl,ltk4,lim1 (k:=10000) (by rw [List.length_map,hal]; omega),?_⟩⟩
      generalize e5:upd H4 tk (.lst (atk.map V.ref ++ [.ref x]))=H5
      have k5:∀ b o,H4 b=some o->b ≠ tk->H5 b=some o:=fun b o hb hne=>by rw [← e5,upd_ne hne]; exact hb
      refine q H5 ⟨fun b o hb=>k5 b o (k4 b o (b3 b o hb) (ne_of_none hb W.n0.2.1)) (ne_of_none hb W.n0.2.2.1),⟨d1,?_⟩,W.n0,W.ne,k5 _ _ ltx4 W.ne.1,?_,k5 _ _ lbg4 (Ne.symm W.ne.2.2),W.toks.snoc hpx⟩
      · have:=k5 _ _ ho4 wr_tk
        rw [eoq] at this
        exact this
      · rw [← e5,upd_same,List.map_append]
        rfl
    refine ⟨_,rfl,(by show 1 ≤ sizeLine; decide),fun p1 hp1=>?_⟩
    have s1:Same H (upd H p1 (.lst [.int 34])):=same_new hp1
    refine ⟨(by show 2 ≤ sizeLine; decide),fun p2 hp2=>?_⟩
    generalize e2:upd (upd H p1 (.lst [.int 34])) p2 (.tup [.int 7,.ref p1])=H2
    have s2:Same (upd H p1 (.lst [.int 34])) H2:=by rw [← e2]; exact same_new hp2
    have hq:PairAt (fun _=>True) H2 p2 MC.oddQ:=⟨p1,trivial,by rw [← e2]; exact upd_same,s2 _ _ upd_same⟩
    have s12:=s1.trans s2
    have W2:=W.same s12
    refine ⟨_,_,dp_pair (hpx.same W2.base),dp_pair hq,shaped_piece _,shaped_piece _,_,rfl,?_⟩
    rw [eqv_piece]
    refine ite2 (fun h=>?_) (fun h=>?_)
    · have ep:=of_decide_eq_true h
      obtain ⟨d2,ho2⟩:=W2.obj
      refine ⟨_,rfl,rf_Written_tokens g ho2 ⟨_,_,rfl,.inl (SqL.of W2.ltk),_,rfl,rs_Written_open_quote g ho2 ?_⟩⟩
      have hlen:((atk.map V.ref).length:Int)=Cm.oqI (some m.toks.length):=by rw [List.length_map,hal]; rfl
      rw [hlen]
      have kk:∀ b o,H2 b=some o->b ≠ wr->(upd H2 wr (.ins g.Written.C d2 (fWritten tx tk bg (Cm.oqI (some m.toks.length))))) b=some o:=fun b o hb hne=>by rw [upd_ne hne]; exact hb
      refine rest _ (some m.toks.length) ⟨fun b o hb=>kk b o (W2.base b o hb) (ne_of_none hb W.n0.1),⟨d2,upd_same⟩,W.n0,W.ne,kk _ _ W2.ltx (Ne.symm (ins_lst ho2 W2.ltx)),kk _ _ W2.ltk (Ne.symm (ins_lst ho2 W2.ltk)),kk _ _ W2.lbg (Ne.symm (ins_lst ho2 W2.lbg)),W.toks⟩ ?_ (by rw [if_pos ep])
      have hbl2:=s12 _ _ hbl
      exact kk _ _ hbl2 (Ne.symm (ins_lst ho2 hbl2))
    · exact rest H2 m.oq W2 (s12 _ _ hbl) (by rw [if_neg fun z=>h (decide_eq_true z)])
def sp_Written_put (g:Pg K mg):Sp:=fun vs H Q _=>∃ (H0:Hp) (wr tx tk bg x:Addr) (atk:List Addr) (m:MC.W) (p:Vafmta.Piece),vs=[.ref wr,.ref x]∧WrAt g H0 H wr tx tk bg atk m∧MC.WInv m∧PairAt (fun _=>True) H0 x p ∧
  m.text.length ≤ 30000∧p.text.length ≤ 20000∧m.toks.length ≤ 1000∧∀ H',WrAt g H0 H' wr tx tk bg (atk ++ [x]) (m.put p)->Q .non H'
theorem ok_Written_put (g:Pg K mg):FnOk P w K mg base CX0 8 g.m_Written_put.a g.m_Written_put.fd ["self","token"] (sp_Written_put g):=by
  refine g.m_Written_put.F.ok sc_Written_put (fun vs H Q E h=>?_) (fun cdv A outer s H vs Q E hr h=>?_)
  · obtain ⟨H0,wr,tx,tk,bg,x,atk,m,p,rfl,_⟩:=h; rfl
  · obtain ⟨H0,wr,tx,tk,bg,x,atk,m,p,rfl,W,I,hpx,l1,l2,l4,q⟩:=h
    refine ⟨_,(pss_one (ps_if (pt_val (pe_meth (pv 0) g.Written.cl g.m_Written_fits.m (ok_Written_fits g) (hr.mono (by decide)) g.m_Written_fits.b .nil pass0 (pa_cons (pe_lst pa_nil) (pa_cons (pv 1) pa_nil)))) (pss_one (ps_expr (pe_meth (pv 0) g.Written.cl g.m_Written_write.m (ok_Written_write g) (hr.mono (by decide)) g.m_Written_write.b .nil pass0 (pa_cons (pe_lst pa_nil) (pa_cons (pv 1) pa_nil))))) (pss_one (ps_if (pt_val (pe_meth (pv 0) g.Written.cl g.m_Written_fits.m (ok_Written_fits g) (hr.mono (by decide)) g.m_Written_fits.b .nil pass0 (pa_cons (pe_lst (pa_cons (pe_gint rfl g.g_BLANK_BYTE) pa_nil)) (pa_cons (pv 1) pa_nil)))) (pss_one (ps_expr (pe_meth (pv 0) g.Written.cl g.m_Written_write.m (ok_Written_write g) (hr.mono (by decide)) g.m_Written_write.b .nil pass0 (pa_cons (pe_lst (pa_cons (pe_gint rfl g.g_BLANK_BYTE) pa_nil)) (pa_cons (pv 1) pa_nil))))) (pss_cons (ps_fld (pv 0) (pe_un un_neg pe_int) rfl)
          (pss_one (ps_expr (pe_meth (pv 0) g.Written.cl g.m_Written_write.m (ok_Written_write g) (hr.mono (by decide)) g.m_Written_write.b .nil pass0 (pa_cons (pe_lst (pa_cons (pe_gint rfl g.g_LINE_END_BYTE) pa_nil)) (pa_cons (pv 1) pa_nil)))))))))),?_⟩
    obtain ⟨dx,ho⟩:=W.obj
    unfold MC.W.put at q
    refine ⟨_,rfl,rm_Written_fits g ho ⟨by decide,fun p1 hp1=>⟨_,rfl,H0,wr,tx,tk,bg,x,p1,atk,m,p,[],rfl,W.same (same_new hp1),I,hpx,upd_same,l1,l2,by simp,l4,fun H2 s2=>?_⟩⟩⟩
    have W2:=(W.same (same_new (o:=.lst []) hp1)).same s2
    obtain ⟨d2,ho2⟩:=W2.obj
    refine ⟨_,rfl,ite2 (fun h=>?_) (fun h=>?_)⟩
    · rw [if_pos (of_decide_eq_true h)] at q
      exact ⟨_,rfl,rm_Written_write g ho2 ⟨by decide,fun p3 hp3=>⟨_,rfl,H0,wr,tx,tk,bg,x,p3,atk,m,p,[],rfl,W2.same (same_new hp3),hpx,upd_same,I.len,l1,l2,by simp,l4,q⟩⟩⟩
    · rw [if_neg fun z=>h (decide_eq_true z)] at q
      refine ⟨_,rfl,rm_Written_fits g ho2 ⟨by decide,fun p3 hp3=>⟨_,rfl,H0,wr,tx,tk,bg,x,p3,atk,m,p,[Vafmta.BLANK],rfl,W2.same (same_new hp3),I,hpx,upd_same,l1,l2,by simp,l4,fun H4 s4=>?_⟩⟩⟩
      have W4:=(W2.same (same_new (o:=.lst [.int 32]) hp3)).same s4
      obtain ⟨d4,ho4⟩:=W4.obj
      refine ⟨_,rfl,ite2 (fun h1=>?_) (fun h1=>?_)⟩
      · rw [if_pos (of_decide_eq_true h1)] at q
        exact ⟨_,rfl,rm_Written_write g ho4 ⟨by decide,fun p5 hp5=>⟨_,rfl,H0,wr,tx,tk,bg,x,p5,atk,m,p,[Vafmta.BLANK],rfl,W4.same (same_new hp5),hpx,upd_same,I.len,l1,l2,by simp,l4,q⟩⟩⟩
      · rw [if_neg fun z=>h1 (decide_eq_true z)] at q
        refine ⟨_,rfl,_,rfl,rs_Written_open_quote (y:=-1) g ho4 ?_⟩
        generalize e5:upd H4 wr (.ins g.Written.C d4 (fWritten tx tk bg (-1)))=H5
        have kk:∀ b o,H4 b=some o->b ≠ wr->H5 b=some o:=fun b o hb hne=>by rw [← e5,upd_ne hne]; exact hb
        have W5:WrAt g H0 H5 wr tx tk bg atk { m with oq:=none }:=⟨fun b o hb=>kk b o (W4.base b o hb) (ne_of_none hb W.n0.1),⟨d4,by rw [← e5]; exact upd_same⟩,W.n0,W.ne,kk _ _ W4.ltx (Ne.symm (ins_lst ho4 W4.ltx)),kk _ _ W4.ltk (Ne.symm (ins_lst ho4 W4.ltk)),kk _ _ W4.lbg (Ne.symm (ins_lst ho4 W4.lbg)),W.toks⟩
        obtain ⟨d5,ho5⟩:=W5.obj
        exact ⟨_,rfl,rm_Written_write g ho5 ⟨by decide,fun p6 hp6=>⟨_,rfl,H0,wr,tx,tk,bg,x,p6,atk,{ m with oq:=none },p,[Vafmta.LINE],rfl,W5.same (same_new hp6),hpx,upd_same,I.len,l1,l2,by simp,l4,q⟩⟩⟩
def sp_written_closely (g:Pg K mg):Sp:=fun vs H Q _=>∃ (l:Addr) (as:List Addr) (ps:List Vafmta.Piece),vs=[.ref l]∧H l=some (.lst (as.map V.ref))∧Ats (PairAt (fun _=>True) H) as ps∧(∀ p ∈ ps,MC.Gen p∧p.isToken=true∧p.text.length ≤ 20000)∧ps.length ≤ 200∧Cm.sumLen ps ≤ 30000 ∧
  ∀ p H',Same H H'->TextAt H' p (ps.foldl MC.W.put MC.W.start).text->Q (.ref p) H'
theorem ok_written_closely (g:Pg K mg):FnOk P w K mg base CX0 9 g.f_written_closely.a g.f_written_closely.fd ["pairs"] (sp_written_closely g):=by
  refine g.f_written_closely.F.ok sc_written_closely (fun vs H Q E h=>?_) (fun cdv A outer s H vs Q E hr h=>?_)
  · obtain ⟨l,as,ps,rfl,_⟩:=h; rfl
  · obtain ⟨l,as,ps,rfl,hl,ha,hps,hn,hsum,q⟩:=h
    refine ⟨_,(pss_cons (ps_set (i:=1) sc_written_closely.nd rfl (Or.inl rfl) (pe_make0 g.Written.mk1 (ok_Written_init g) (hr.mono (by decide)) rfl g.Written.mg g.Written.b .nil pass0))
      (pss_cons (ps_for PassesOwn.never rfl (pi_list (pv 0)) (pg_name (i:=2) sc_written_closely.nd rfl (Or.inl rfl)) (pss_one (ps_expr (pe_meth (pv 1) g.Written.cl g.m_Written_put.m (ok_Written_put g) (hr.mono (by decide)) g.m_Written_put.b .nil pass0 (pa_cons (pv 2) pa_nil)))))
      (pss_one (ps_ret (pe_fld (pv 1) rfl))))),?_⟩
    refine mk_Written g fun wr tx tk bg H1 W1=>?_
    refine ⟨_,rfl,l,rfl,⟨_,SqL.of (W1.base _ _ hl)⟩,for_list (K:=K) (a:=l) (xs:=as.map V.ref) (fun i σ H'=>∃ v,σ=[some (.ref l),some (.ref wr),v]∧WrAt g H H' wr tx tk bg (as.take i) ((ps.take i).foldl MC.W.put MC.W.start)) ?_ ?_ ?_ ?_⟩
    · exact ⟨none,rfl,W1⟩
    · rintro i σ H' _ ⟨v,rfl,W⟩
      exact SqL.of (W.base _ _ hl)
    · rintro i y σ H' hi ⟨v,rfl,W⟩
      obtain ⟨a,ea,rfl⟩:=ref_get hi
      obtain ⟨p,ep,hp⟩:=ha.get ea
      obtain ⟨dx,ho⟩:=W.obj
      have hf:=Cm.fold_len (ps.take i) MC.W.start
      have hst:=Cm.sumLen_take ps i
      have I:=Cm.fold_inv (ps.take i) MC.W.start MC.WInv.start fun z hz=>⟨(hps z (List.mem_of_mem_take hz)).1,(hps z (List.mem_of_mem_take hz)).2.1⟩
      have e0:MC.W.start.text.length=0:=rfl
      have e1:MC.W.start.toks.length=0:=rfl
      refine ⟨_,rfl,rm_Written_put g ho ⟨_,rfl,H,wr,tx,tk,bg,a,as.take i,_,p,rfl,W,I,hp,by omega,(hps p (List.mem_of_getElem? ep)).2.2,by rw [hf.2,List.length_take]; omega,fun H2 W2=>?_⟩⟩
      refine ⟨_,rfl,?_⟩
      rw [take_snoc ea,take_snoc ep,List.foldl_append]
      exact W2
    · rintro σ H' ⟨v,rfl,W⟩
      obtain ⟨dx,ho⟩:=W.obj
      refine ⟨_,rfl,rf_Written_text g ho (q tx H' W.base ?_)⟩
      have:=W.ltx
      rw [List.length_map,ha.1,List.take_length] at this
      exact this
end
end Cb
end
section
set_option maxRecDepth 100000
set_option maxHeartbeats 4000000
namespace Cb
open PySem PySem.Spec PyProof.Rows L2
open Cm (bi)
def ansV (a:Vafmta.Answer):List V:=(a.num :: a.rest).map V.int
theorem numbers_bV (t:Vafmta.Bytes):(Vafmta.numbers t).map V.int=bV t:=by
  unfold Vafmta.numbers bV
  rw [List.map_map]
  rfl
section
variable {P:Program}{w:World}{K:PySem.W.Frag}{mg:Str->Option Value}{base:Heap}
def CutX (g:Pg K mg) (N:Addr->Prop) (H:Hp) (x:Addr) (h:Vafmta.Held):Prop:=∃ ta sl as fr,CutAt g N H x ta sl as h.text h.stretches fr
def HAt (g:Pg K mg) (H:Hp) (hd:Addr) (h:Vafmta.Held):Prop:=∃ N dx x bf,H hd=some (.ins g.Held.C dx (fHeld x bf))∧CutX g N H x h
def sp_counted : Sp:=fun vs H Q _=>∃ (a:Addr) (xs:List V),vs=[.ref a]∧H a=some (.lst xs)∧xs.length ≤ 1000000∧∀ l H',Same H H'->H l=none->H' l=some (.lst (.int (xs.length:Int) :: xs))->Q (.ref l) H'
theorem ok_counted (g:Pg K mg):FnOk P w K mg base CX0 1 g.f_counted.a g.f_counted.fd ["row"] sp_counted:=by
  refine g.f_counted.F.ok sc_counted (fun vs H Q E h=>?_) (fun cdv A outer s H vs Q E hr h=>?_)
  · obtain ⟨a,xs,rfl,_⟩:=h; rfl
  · obtain ⟨a,xs,rfl,ha,hl,q⟩:=h
    refine ⟨_,(pss_one (ps_ret (pe_op op_cat (pe_lst (pa_cons (pe_callB call_len_seq (by rfl) g.n_len PySem.boot_len (pa_cons (pv 0) pa_nil)) pa_nil)) (pv 0)))),?_⟩
    refine ⟨_,rfl,_,_,rfl,.inl (SqL.of ha),(by show 1 ≤ sizeLine; decide),fun p hp=>⟨_,rfl,p,a,_,_,rfl,rfl,upd_same,same_new hp _ _ ha,lim (k:=2000000) (by simp; omega),fun p2 hp2=>?_⟩⟩
    exact q p2 _ ((same_new hp).trans (same_new hp2)) ((same_new hp).free hp2) upd_same
def Tells (H:Hp) (Q:VK) (a:Vafmta.Answer):Prop:=∀ l H',H l=none->Same H H'->H' l=some (.lst (ansV a))->(ansV a).length ≤ 100000->Q (.ref l) H'
theorem Tells.one {H H':Hp}{Q:VK}{a:Vafmta.Answer} (q:Tells H Q a) (s:Same H H') (n:Int) (e:a=Vafmta.refusal n):∀ p,H' p=none->Q (.ref p) (upd H' p (.lst [.int n])):=fun p hp=>by
  subst e
  exact q p _ (s.free hp) (s.trans (same_new hp)) upd_same (by show 1 ≤ 100000; decide)
def sp_Held_tell_text (g:Pg K mg):Sp:=fun vs H Q _=>∃ (hd:Addr) (h:Vafmta.Held),vs=[.ref hd]∧HAt g H hd h∧Tells H Q (Vafmta.told h .text)
theorem ok_Held_tell_text (g:Pg K mg):FnOk P w K mg base CX0 2 g.m_Held_tell_text.a g.m_Held_tell_text.fd ["self"] (sp_Held_tell_text g):=by
  refine g.m_Held_tell_text.F.ok sc_Held_tell_text (fun vs H Q E h=>?_) (fun cdv A outer s H vs Q E hr h=>?_)
  · obtain ⟨hd,h,rfl,_⟩:=h; rfl
  · obtain ⟨hd,h,rfl,⟨N,dx,x,bf,ho,ta,sl,as,fr,C⟩,q⟩:=h
    refine ⟨_,(pss_one (ps_ret (pe_call (ok_counted g) (hr.mono (by decide)) rfl g.f_counted.m g.f_counted.F.kp g.f_counted.b .nil pass0 (pa_cons (pe_fld (pe_fld (pv 0) rfl) rfl) pa_nil)))),?_⟩
    obtain ⟨dc,hc⟩:=C.obj
    have hl:=C.len
    refine ⟨_,rfl,rf_Held_now g ho (rf_Cut_text g hc ⟨ta,_,rfl,C.txt,by rw [bV_len]; omega,fun l H' s nl hl'=>?_⟩)⟩
    have e:ansV (Vafmta.told h .text) = .int ((bV h.text).length:Int) :: bV h.text:=by
      show V.int (Int.ofNat h.text.length) :: (Vafmta.numbers h.text).map V.int=_
      rw [numbers_bV,bV_len]
      rfl
    exact q l H' nl s (by rw [e]; exact hl') (by rw [e,List.length_cons,bV_len]; omega)
theorem CutX.run {g:Pg K mg}{N:Addr->Prop}{H:Hp}{x ta sl:Addr}{as:List Addr}{h:Vafmta.Held}{fr:Int} (C:CutAt g N H x ta sl as h.text h.stretches fr):(runOf h.stretches.flatten).done=h.things∧(runOf h.stretches.flatten).place=h.text.length∧Cm.RunW (runOf h.stretches.flatten):=by
  refine ⟨?_,?_,?_⟩
  · unfold Vafmta.Held.things Vafmta.thingsOf Vafmta.thingsFrom runOf
    rw [Cm.pieces_flat]
  · unfold runOf
    rw [Cm.fold_place,C.good.bytes]
    show 0 + _=_
    omega
  · exact Cm.runW_fold _ _ Cm.runW_start fun p hp=>Cm.gen_pos (C.good.gen p hp)
structure ThB (g:Pg K mg) (H0 H:Hp) (th tl wl:Addr) (ats aws:List Addr) (h:Vafmta.Held):Prop where
  base:Same H0 H
  obj:∃ dx n b,H th=some (.ins g.Things.C dx (fThings tl wl n b))
  ltl:H tl=some (.lst (ats.map V.ref))
  lwl:H wl=some (.lst (aws.map V.ref))
  toks:Ats (TokenAt g (fun _=>True) H) ats h.things.tokens
  wait:Ats (CommentAt g (fun _=>True) H) aws h.things.tail
  nt:h.things.tokens.length ≤ 20000
  tw:Cm.leadsW h.things.tail ≤ 60000
  kw:∀ t ∈ h.things.tokens,Cm.leadsW t.leads ≤ 60000∧t.text.length ≤ 20000∧(∀ b,t.behind=some b->b.length ≤ 20000)
theorem CommentAt.any {g:Pg K mg}{N:Addr->Prop}{H:Hp}{x:Addr}{l:Vafmta.Lead} (h:CommentAt g N H x l):CommentAt g (fun _=>True) H x l:=by
  obtain ⟨dx,r,_,h1,h2⟩:=h
  exact ⟨dx,r,trivial,h1,h2⟩
theorem TokenAt.any {g:Pg K mg}{N:Addr->Prop}{H:Hp}{x:Addr}{t:Vafmta.Token} (h:TokenAt g N H x t):TokenAt g (fun _=>True) H x t:=h.tr ⟨fun _ _ _ _ h _=>h,fun _ _ h _=>⟨h,trivial⟩⟩ fun _ h=>h
theorem ThB.of {g:Pg K mg}{N:Addr->Prop}{H0 H:Hp}{x ta sl th tl wl:Addr}{as ats aws:List Addr}{h:Vafmta.Held}{fr:Int} (C:CutAt g N H0 x ta sl as h.text h.stretches fr) (T:ThSt g H0 H th tl wl ats aws (runOf h.stretches.flatten)):ThB g H0 H th tl wl ats aws h:=by
  obtain ⟨e1,e2,W⟩:=CutX.run C
  have hl:=C.len
  have et:(runOf h.stretches.flatten).tokens.reverse=h.things.tokens:=by rw [← e1]; rfl
  have el:(runOf h.stretches.flatten).leads.reverse=h.things.tail:=by rw [← e1]; rfl
  have T1:=T.toks
  have T2:=T.wait
  rw [et] at T1
  rw [el] at T2
  obtain ⟨dx,ho⟩:=T.obj
  refine ⟨T.base,⟨dx,_,_,ho⟩,T.ltl,T.lwl,T1.imp fun a t z=>z.any,T2.imp fun a t z=>z.any,?_,?_,fun t ht=>?_⟩
  · rw [← et,List.length_reverse]
    have:=T.few
    rw [e2] at this
    omega
  · rw [← el,Cm.leadsW_reverse]
    have:=W.leads
    rw [e2] at this
    omega
  · rw [← et] at ht
    have:=W.toks t (List.mem_reverse.mp ht)
    rw [e2] at this
    exact ⟨by omega,by omega,fun b hb=>by have:=this.2.2 b hb; omega⟩
theorem ThB.same {g:Pg K mg}{H0 H H':Hp}{th tl wl:Addr}{ats aws:List Addr}{h:Vafmta.Held} (T:ThB g H0 H th tl wl ats aws h) (s:Same H H'):ThB g H0 H' th tl wl ats aws h:=by
  obtain ⟨dx,n,b,ho⟩:=T.obj
  exact ⟨T.base.trans s,⟨dx,n,b,s _ _ ho⟩,s _ _ T.ltl,s _ _ T.lwl,T.toks.imp fun a t z=>z.same s,T.wait.imp fun a t z=>z.same s,T.nt,T.tw,T.kw⟩
def sp_Held_tell_tokens (g:Pg K mg):Sp:=fun vs H Q _=>∃ (hd:Addr) (h:Vafmta.Held),vs=[.ref hd]∧HAt g H hd h∧Tells H Q (Vafmta.told h .tokens)
theorem ok_Held_tell_tokens (g:Pg K mg):FnOk P w K mg base CX0 5 g.m_Held_tell_tokens.a g.m_Held_tell_tokens.fd ["self"] (sp_Held_tell_tokens g):=by
  refine g.m_Held_tell_tokens.F.ok sc_Held_tell_tokens (fun vs H Q E h=>?_) (fun cdv A outer s H vs Q E hr h=>?_)
  · obtain ⟨hd,h,rfl,_⟩:=h; rfl
  · obtain ⟨hd,h,rfl,⟨N,dx,x,bf,ho,ta,sl,as,fr,C⟩,q⟩:=h
    refine ⟨_,(pss_cons (ps_set (i:=1) sc_Held_tell_tokens.nd rfl (Or.inl rfl) (pe_fld (pe_call (ok_things_of g) (hr.mono (by decide)) rfl g.f_things_of.m g.f_things_of.F.kp g.f_things_of.b .nil pass0 (pa_cons (pe_fld (pv 0) rfl) pa_nil)) rfl))
      (pss_cons (ps_set (i:=2) sc_Held_tell_tokens.nd rfl (Or.inl rfl) (pe_lst (pa_cons (pe_callB call_len_seq (by rfl) g.n_len PySem.boot_len (pa_cons (pv 1) pa_nil)) pa_nil)))
      (pss_cons (ps_for PassesOwn.never rfl (pi_list (pv 1)) (pg_name (i:=3) sc_Held_tell_tokens.nd rfl (Or.inl rfl)) (pss_one (ps_expr (pe_bm PySem.F.plainAttrs_list PySem.F.slot_list_extend PySem.F.type_list_extend mt_extend (pv 2) (pa_cons (pe_lst (pa_cons (pe_fld (pv 3) rfl) (pa_cons (pe_fld (pv 3) rfl) (pa_cons (pe_callB call_len_seq (by rfl) g.n_len PySem.boot_len (pa_cons (pe_fld (pv 3) rfl) pa_nil)) pa_nil)))) pa_nil)))))
      (pss_one (ps_ret (pv 2)))))),?_⟩
    refine ⟨_,rfl,rf_Held_now g ho ⟨N,x,ta,sl,as,h.text,h.stretches,fr,rfl,C,fun th tl wl ats aws H1 T0=>?_⟩⟩
    have T:=ThB.of C T0
    obtain ⟨dt,nt,bt,hth⟩:=T.obj
    refine rf_Things_tokens g hth ?_
    refine ⟨_,rfl,_,_,rfl,.inl (SqL.of T.ltl),(by show 1 ≤ sizeLine; decide),fun l hl=>?_⟩
    have hal:(ats.map V.ref).length=h.things.tokens.length:=by rw [List.length_map,T.toks.1]
    have lens:∀ i,((h.things.tokens.take i).flatMap fun t=>[V.int (Vafmta.kindNo t.kind),V.int (t.start:Int),V.int (t.text.length:Int)]).length ≤ 60000:=fun i=>by
      have z:∀ l:List Vafmta.Token,(l.flatMap fun t=>[V.int (Vafmta.kindNo t.kind),V.int (t.start:Int),V.int (t.text.length:Int)]).length=3 * l.length:=by
        intro l
        induction l with
        | nil=>rfl
        | cons a l ih=>rw [List.flatMap_cons,List.length_append,ih,List.length_cons]; simp; omega
      rw [z,List.length_take]
      have:=T.nt
      omega
    have sl1:Same H1 (upd H1 l (.lst [.int ((ats.map V.ref).length:Int)])):=same_new hl
    refine ⟨_,rfl,tl,rfl,⟨_,SqL.of (sl1 _ _ T.ltl)⟩,for_list (K:=K) (a:=tl) (xs:=ats.map V.ref) (fun i σ H'=>∃ v,σ=[some (.ref hd),some (.ref tl),some (.ref l),v]∧Same H1 H'∧H' l=some (.lst (.int (h.things.tokens.length:Int) :: (h.things.tokens.take i).flatMap fun t=>[V.int (Vafmta.kindNo t.kind),V.int (t.start:Int),V.int (t.text.length:Int)]))) ?_ ?_ ?_ ?_⟩
    · exact ⟨none,rfl,sl1,by rw [upd_same,hal]; rfl⟩
    · rintro i σ H2 _ ⟨v,rfl,s2,_⟩
      exact SqL.of (s2 _ _ T.ltl)
    · rintro i y σ H2 hi ⟨v,rfl,s2,hl2⟩
      obtain ⟨a,ea,rfl⟩:=ref_get hi
      obtain ⟨k,ek,hk⟩:=T.toks.get ea
      obtain ⟨da,r,ll,aa,bh,_,_,hka,hkr,_⟩:=hk.same s2
      have hlen:=lens i
      refine ⟨_,rfl,.inl ⟨rfl,_,SqL.of hl2⟩,_,rfl,rf_Token_kind g hka ⟨_,rfl,rf_Token_begin g hka ⟨_,rfl,rf_Token_row g hka ⟨_,_,rfl,.inl (SqL.of hkr),(by show 3 ≤ sizeLine; decide),fun p hp=>?_⟩⟩⟩⟩
      have s3:Same H2 (upd H2 p (.lst [.int (Vafmta.kindNo k.kind),.int (k.start:Int),.int ((bV k.text).length:Int)])):=same_new hp
      refine ⟨l,p,_,_,rfl,rfl,s3 _ _ hl2,upd_same,lim (k:=100000) (by rw [List.length_cons]; simp at hlen ⊢; omega),?_⟩
      refine ⟨_,rfl,same_upd (s2.trans s3) hl,?_⟩
      rw [upd_same,take_snoc ek,List.flatMap_append,bV_len]
      simp
    · rintro σ H2 ⟨v,rfl,s2,hl2⟩
      rw [hal,List.take_length] at hl2
      have e:ansV (Vafmta.told h .tokens)=V.int (h.things.tokens.length:Int) :: h.things.tokens.flatMap fun t=>[V.int (Vafmta.kindNo t.kind),V.int (t.start:Int),V.int (t.text.length:Int)]:=by
        show V.int (Int.ofNat h.things.tokens.length) :: (h.things.tokens.flatMap fun t=>[Vafmta.kindNo t.kind,Int.ofNat t.start,Int.ofNat t.text.length]).map V.int=_
        rw [List.map_flatMap]
        rfl
      refine ⟨_,rfl,q l H2 (T.base.free hl) (T.base.trans s2) (by rw [e]; exact hl2) ?_⟩
      have:=lens h.things.tokens.length
      rw [List.take_length] at this
      rw [e,List.length_cons]
      omega
def sp_Held_tell_token (g:Pg K mg):Sp:=fun vs H Q _=>∃ (hd:Addr) (h:Vafmta.Held) (i:Int),vs=[.ref hd,.int i]∧HAt g H hd h∧Tells H Q (Vafmta.told h (.token i))
theorem ok_Held_tell_token (g:Pg K mg):FnOk P w K mg base CX0 5 g.m_Held_tell_token.a g.m_Held_tell_token.fd ["self","i"] (sp_Held_tell_token g):=by
  refine g.m_Held_tell_token.F.ok sc_Held_tell_token (fun vs H Q E h=>?_) (fun cdv A outer s H vs Q E hr h=>?_)
  · obtain ⟨hd,h,i,rfl,_⟩:=h; rfl
  · obtain ⟨hd,h,i,rfl,⟨N,dx,x,bf,ho,ta,sl,as,fr,C⟩,q⟩:=h
    refine ⟨_,(pss_cons (ps_set (i:=2) sc_Held_tell_token.nd rfl (Or.inl rfl) (pe_fld (pe_call (ok_things_of g) (hr.mono (by decide)) rfl g.f_things_of.m g.f_things_of.F.kp g.f_things_of.b .nil pass0 (pa_cons (pe_fld (pv 0) rfl) pa_nil)) rfl))
      (pss_cons (ps_if (PW.pt (pw_or (pt_cmpR op_lt (pv 1) pe_int (nomark _)) (pw_or1 (pt_cmpR op_ge (pv 1) (pe_callB call_len_seq (by rfl) g.n_len PySem.boot_len (pa_cons (pv 2) pa_nil)) (nomark _))))) (pss_one (ps_ret (pe_lst (pa_cons (pe_gint rfl g.g_NO_SUCH) pa_nil)))) pss_nil)
      (pss_cons (ps_set (i:=3) sc_Held_tell_token.nd rfl (Or.inl rfl) (pe_ix ix_list (pv 2) (pv 1) (fun _ _=>rfl)))
      (pss_cons (ps_set (i:=4) sc_Held_tell_token.nd rfl (Or.inl rfl) (pe_ifExp (pt_cmpR op_isN (pe_fld (pv 3) rfl) pe_non (nomark _)) pe_int pe_int))
      (pss_one (ps_ret (pe_op op_cat (pe_lst (pa_cons (pe_fld (pv 3) rfl) (pa_cons (pe_fld (pv 3) rfl) (pa_cons (pe_fld (pv 3) rfl) (pa_cons (pe_callB call_len_seq (by rfl) g.n_len PySem.boot_len (pa_cons (pe_fld (pv 3) rfl) pa_nil)) (pa_cons (pv 4) pa_nil)))))) (pe_fld (pv 3) rfl)))))))),?_⟩
    refine ⟨_,rfl,rf_Held_now g ho ⟨N,x,ta,sl,as,h.text,h.stretches,fr,rfl,C,fun th tl wl ats aws H1 T0=>?_⟩⟩
    have T:=ThB.of C T0
    obtain ⟨dt,nt,bt,hth⟩:=T.obj
    refine rf_Things_tokens g hth ?_
    have hal:(ats.map V.ref).length=h.things.tokens.length:=by rw [List.length_map,T.toks.1]
    have none:(i < 0 ∨ (h.things.tokens.length:Int) ≤ i)->∀ p,H1 p=none->Q (.ref p) (upd H1 p (.lst [.int (-3)])):=fun z=>q.one T.base (-3) (by unfold Vafmta.told; simp only; rw [Cm.at_none z])
    refine ⟨_,rfl,_,_,rfl,rfl,_,rfl,ite2 (fun h1=>?_) (fun h1=>?_)⟩
    · exact ⟨(by show 1 ≤ sizeLine; decide),none (.inl (of_decide_eq_true h1))⟩
    have n1:¬ i < 0:=fun z=>h1 (decide_eq_true z)
    refine ⟨_,rfl,_,rfl,_,_,rfl,.inl (SqL.of T.ltl),_,_,rfl,rfl,_,rfl,ite2 (fun h2=>?_) (fun h2=>?_)⟩
    · exact ⟨(by show 1 ≤ sizeLine; decide),none (.inr (by have:=of_decide_eq_true h2; rw [hal] at this; exact this))⟩
    have n2:¬ (h.things.tokens.length:Int) ≤ i:=fun z=>h2 (decide_eq_true (by rw [hal]; exact z))
    obtain ⟨k,ek,ek2⟩:=Cm.at_some n1 n2
    obtain ⟨a,ea,hk⟩:=T.toks.get' ek2
    obtain ⟨da,r,ll,aa,bh,_,_,hka,hkr,hkl,hkc,hkb⟩:=hk
    refine ⟨_,rfl,_,rfl,tl,_,_,V.ref a,rfl,rfl,SqL.of T.ltl,at_of (j:=i.toNat) (by omega) (by rw [List.getElem?_map,ea]; rfl),?_⟩
    have kw:=T.kw k (List.mem_of_getElem? ek2)
    have fin:∀ b:Int,b=Vafmta.truth k.behind.isSome->tRet (tOp rCat (tLst (tCons (tFld K (tVar 3) "kind") (tCons (tFld K (tVar 3) "begin") (tCons (tFld K (tVar 3) "gap") (tCons (tCB (fun xs H Q=>∃ p ys,xs=[.ref p]∧(SqL K H p ys ∨ SqT K H p ys)∧Q (.int ys.length) H) (tCons (tFld K (tVar 3) "leading") tNil)) (tCons (tVar 4) tNil)))))) (tFld K (tVar 3) "row")) { nx:=fun _ H'=>Q .non H',rt:=Q } [some (.ref hd),some (.int i),some (.ref tl),some (.ref a),some (.int b)] H1:=by
      intro b eb
      refine ⟨_,rfl,rf_Token_kind g hka ⟨_,rfl,rf_Token_begin g hka ⟨_,rfl,rf_Token_gap g hka ⟨_,rfl,rf_Token_leading g hka ⟨ll,_,rfl,.inl (SqL.of hkl),_,rfl,(by show 5 ≤ sizeLine; decide),fun p hp=>?_⟩⟩⟩⟩⟩
      generalize e2:upd H1 p (.lst [.int (Vafmta.kindNo k.kind),.int (k.start:Int),.int (Vafmta.truth k.gap),.int ((aa.map V.ref).length:Int),.int b])=H2
      have s2:Same H1 H2:=by rw [← e2]; exact same_new hp
      refine ⟨_,rfl,rf_Token_row g (s2 _ _ hka) ⟨p,r,_,_,rfl,rfl,by rw [← e2]; exact upd_same,s2 _ _ hkr,lim (k:=100000) (by rw [bV_len]; simp; omega),fun p3 hp3=>?_⟩⟩
      have e:ansV (Vafmta.told h (.token i))=[V.int (Vafmta.kindNo k.kind),.int (k.start:Int),.int (Vafmta.truth k.gap),.int ((aa.map V.ref).length:Int),.int b] ++ bV k.text:=by
        unfold Vafmta.told
        simp only
        rw [ek]
        show V.int (Vafmta.kindNo k.kind) :: V.int (Int.ofNat k.start) :: V.int (Vafmta.truth k.gap) :: V.int (Int.ofNat k.leads.length) :: V.int (Vafmta.truth k.behind.isSome) :: (Vafmta.numbers k.text).map V.int=_
        rw [numbers_bV,eb,List.length_map,hkc.1]
        rfl
      refine q p3 _ ((T.base.trans s2).free hp3) ((T.base.trans s2).trans (same_new hp3)) (by rw [e]; exact upd_same) ?_
      rw [e,List.length_append,bV_len]
      simp
      omega
    refine ⟨_,rfl,rf_Token_behind g hka ⟨rfl,_,rfl,?_⟩⟩
    rcases hkb with ⟨e1,e2⟩ | ⟨y,l,e1,e2,_⟩
    · subst e2
      refine ite2 (fun _=>?_) (fun z=>absurd (decide_eq_true rfl) z)
      exact fin 0 (by rw [e1]; rfl)
    · subst e1
      refine ite2 (fun z=>absurd (of_decide_eq_true z) (fun z=>nomatch z)) (fun _=>?_)
      exact fin 1 (by rw [e2]; rfl)
def sp_Held_tell_behind (g:Pg K mg):Sp:=fun vs H Q _=>∃ (hd:Addr) (h:Vafmta.Held) (i:Int),vs=[.ref hd,.int i]∧HAt g H hd h∧Tells H Q (Vafmta.told h (.behind i))
theorem ok_Held_tell_behind (g:Pg K mg):FnOk P w K mg base CX0 5 g.m_Held_tell_behind.a g.m_Held_tell_behind.fd ["self","i"] (sp_Held_tell_behind g):=by
  refine g.m_Held_tell_behind.F.ok sc_Held_tell_behind (fun vs H Q E h=>?_) (fun cdv A outer s H vs Q E hr h=>?_)
  · obtain ⟨hd,h,i,rfl,_⟩:=h; rfl
  · obtain ⟨hd,h,i,rfl,⟨N,dx,x,bf,ho,ta,sl,as,fr,C⟩,q⟩:=h
    refine ⟨_,(pss_cons (ps_set (i:=2) sc_Held_tell_behind.nd rfl (Or.inl rfl) (pe_fld (pe_call (ok_things_of g) (hr.mono (by decide)) rfl g.f_things_of.m g.f_things_of.F.kp g.f_things_of.b .nil pass0 (pa_cons (pe_fld (pv 0) rfl) pa_nil)) rfl))
      (pss_cons (ps_if (PW.pt (pw_or (pt_cmpR op_lt (pv 1) pe_int (nomark _)) (pw_or1 (pt_cmpR op_ge (pv 1) (pe_callB call_len_seq (by rfl) g.n_len PySem.boot_len (pa_cons (pv 2) pa_nil)) (nomark _))))) (pss_one (ps_ret (pe_lst (pa_cons (pe_gint rfl g.g_NO_SUCH) pa_nil)))) pss_nil)
      (pss_cons (ps_if (pt_cmpR op_isN (pe_fld (pe_ix ix_list (pv 2) (pv 1) (fun _ _=>rfl)) rfl) pe_non (nomark _)) (pss_one (ps_ret (pe_lst (pa_cons (pe_gint rfl g.g_NONE_BEHIND) pa_nil)))) pss_nil)
      (pss_one (ps_ret (pe_call (ok_counted g) (hr.mono (by decide)) rfl g.f_counted.m g.f_counted.F.kp g.f_counted.b .nil pass0 (pa_cons (pe_fld (pe_fld (pe_ix ix_list (pv 2) (pv 1) (fun _ _=>rfl)) rfl) rfl) pa_nil))))))),?_⟩
    refine ⟨_,rfl,rf_Held_now g ho ⟨N,x,ta,sl,as,h.text,h.stretches,fr,rfl,C,fun th tl wl ats aws H1 T0=>?_⟩⟩
    have T:=ThB.of C T0
    obtain ⟨dt,nt,bt,hth⟩:=T.obj
    refine rf_Things_tokens g hth ?_
    have hal:(ats.map V.ref).length=h.things.tokens.length:=by rw [List.length_map,T.toks.1]
    have none:(i < 0 ∨ (h.things.tokens.length:Int) ≤ i)->∀ p,H1 p=none->Q (.ref p) (upd H1 p (.lst [.int (-3)])):=fun z=>q.one T.base (-3) (by unfold Vafmta.told; simp only; rw [Cm.at_none z])
    refine ⟨_,rfl,_,_,rfl,rfl,_,rfl,ite2 (fun h1=>?_) (fun h1=>?_)⟩
    · exact ⟨(by show 1 ≤ sizeLine; decide),none (.inl (of_decide_eq_true h1))⟩
    have n1:¬ i < 0:=fun z=>h1 (decide_eq_true z)
    refine ⟨_,rfl,_,rfl,_,_,rfl,.inl (SqL.of T.ltl),_,_,rfl,rfl,_,rfl,ite2 (fun h2=>?_) (fun h2=>?_)⟩
    · exact ⟨(by show 1 ≤ sizeLine; decide),none (.inr (by have:=of_decide_eq_true h2; rw [hal] at this; exact this))⟩
    have n2:¬ (h.things.tokens.length:Int) ≤ i:=fun z=>h2 (decide_eq_true (by rw [hal]; exact z))
    obtain ⟨k,ek,ek2⟩:=Cm.at_some n1 n2
    obtain ⟨a,ea,hk⟩:=T.toks.get' ek2
    obtain ⟨da,r,ll,aa,bh,_,_,hka,hkr,hkl,hkc,hkb⟩:=hk
    have hat:atI (ats.map V.ref) i=some (V.ref a):=at_of (j:=i.toNat) (by omega) (by rw [List.getElem?_map,ea]; rfl)
    have kw:=T.kw k (List.mem_of_getElem? ek2)
    refine ⟨_,rfl,_,rfl,tl,_,_,V.ref a,rfl,rfl,SqL.of T.ltl,hat,rf_Token_behind g hka ⟨rfl,_,rfl,?_⟩⟩
    rcases hkb with ⟨e1,e2⟩ | ⟨y,l,e1,e2,dy,ry,_,hy,hry⟩
    · subst e2
      refine ite2 (fun _=>?_) (fun z=>absurd (decide_eq_true rfl) z)
      refine ⟨(by show 1 ≤ sizeLine; decide),q.one T.base (-4) ?_⟩
      unfold Vafmta.told
      simp only
      rw [ek]
      simp only
      rw [e1]
    · subst e1
      refine ite2 (fun z=>absurd (of_decide_eq_true z) (fun z=>nomatch z)) (fun _=>?_)
      have hll:=kw.2.2 _ e2
      refine ⟨_,rfl,_,rfl,tl,_,_,V.ref a,rfl,rfl,SqL.of T.ltl,hat,rf_Token_behind g hka (rf_Comment_row g hy ⟨ry,_,rfl,hry,by rw [bV_len]; omega,fun l2 H2 s2 nl2 hl2=>?_⟩)⟩
      have e:ansV (Vafmta.told h (.behind i)) = .int ((bV l.text).length:Int) :: bV l.text:=by
        unfold Vafmta.told
        simp only
        rw [ek]
        simp only
        rw [e2]
        show V.int (Int.ofNat l.text.length) :: (Vafmta.numbers l.text).map V.int=_
        rw [numbers_bV,bV_len]
        rfl
      exact q l2 H2 (T.base.free nl2) (T.base.trans s2) (by rw [e]; exact hl2) (by rw [e,List.length_cons,bV_len]; omega)
def leadV (x:Vafmta.Lead):List V:=V.int (Vafmta.truth x.gap) :: V.int (x.text.length:Int) :: bV x.text
theorem leads_len (l:List Vafmta.Lead):(l.flatMap leadV).length=Cm.leadsW l:=by
  unfold Cm.leadsW
  induction l with
  | nil=>rfl
  | cons a l ih =>
    rw [List.flatMap_cons,List.length_append,ih,List.map_cons,List.sum_cons]
    unfold leadV
    simp only [List.length_cons,bV_len]
theorem leads_ans (l:List Vafmta.Lead):ansV (Vafmta.leadsAnswer l) = .int (l.length:Int) :: l.flatMap leadV:=by
  show V.int (Int.ofNat l.length) :: (l.flatMap fun x=>Vafmta.truth x.gap :: Int.ofNat x.text.length :: Vafmta.numbers x.text).map V.int=_
  rw [List.map_flatMap]
  congr 1
  congr 1
  funext x
  show V.int (Vafmta.truth x.gap) :: V.int (Int.ofNat x.text.length) :: (Vafmta.numbers x.text).map V.int=_
  rw [numbers_bV]
  rfl
theorem leadsW_take (l:List Vafmta.Lead) (i:Nat):Cm.leadsW (l.take i) ≤ Cm.leadsW l:=by
  have h:Cm.leadsW l=Cm.leadsW (l.take i) + Cm.leadsW (l.drop i):=by rw [← Cm.leadsW_append,List.take_append_drop]
  omega
def sp_Held_tell_leads (g:Pg K mg):Sp:=fun vs H Q _=>∃ (hd:Addr) (h:Vafmta.Held) (i:Int),vs=[.ref hd,.int i]∧HAt g H hd h∧Tells H Q (Vafmta.told h (.leads i))
theorem ok_Held_tell_leads (g:Pg K mg):FnOk P w K mg base CX0 5 g.m_Held_tell_leads.a g.m_Held_tell_leads.fd ["self","i"] (sp_Held_tell_leads g):=by
  refine g.m_Held_tell_leads.F.ok sc_Held_tell_leads (fun vs H Q E h=>?_) (fun cdv A outer s H vs Q E hr h=>?_)
  · obtain ⟨hd,h,i,rfl,_⟩:=h; rfl
  · obtain ⟨hd,h,i,rfl,⟨N,dx,x,bf,ho,ta,sl,as,fr,C⟩,q⟩:=h
    refine ⟨_,(pss_cons (ps_set (i:=2) sc_Held_tell_leads.nd rfl (Or.inl rfl) (pe_call (ok_things_of g) (hr.mono (by decide)) rfl g.f_things_of.m g.f_things_of.F.kp g.f_things_of.b .nil pass0 (pa_cons (pe_fld (pv 0) rfl) pa_nil)))
      (pss_cons (ps_if (PW.pt (pw_or (pt_cmpR op_lt (pv 1) pe_int (nomark _)) (pw_or1 (pt_cmpR op_gt (pv 1) (pe_callB call_len_seq (by rfl) g.n_len PySem.boot_len (pa_cons (pe_fld (pv 2) rfl) pa_nil)) (nomark _))))) (pss_one (ps_ret (pe_lst (pa_cons (pe_gint rfl g.g_NO_SUCH) pa_nil)))) pss_nil)
      (pss_cons (ps_set (i:=3) sc_Held_tell_leads.nd rfl (Or.inl rfl) (pe_fld (pv 2) rfl))
      (pss_cons (ps_if (pt_cmpR op_lt (pv 1) (pe_callB call_len_seq (by rfl) g.n_len PySem.boot_len (pa_cons (pe_fld (pv 2) rfl) pa_nil)) (nomark _)) (pss_one (ps_set (i:=3) sc_Held_tell_leads.nd rfl (Or.inl rfl) (pe_fld (pe_ix ix_list (pe_fld (pv 2) rfl) (pv 1) (fun _ _=>rfl)) rfl))) pss_nil)
      (pss_cons (ps_set (i:=4) sc_Held_tell_leads.nd rfl (Or.inl rfl) (pe_lst (pa_cons (pe_callB call_len_seq (by rfl) g.n_len PySem.boot_len (pa_cons (pv 3) pa_nil)) pa_nil)))
      (pss_cons (ps_for PassesOwn.never rfl (pi_list (pv 3)) (pg_name (i:=5) sc_Held_tell_leads.nd rfl (Or.inl rfl)) (pss_cons (ps_expr (pe_bm PySem.F.plainAttrs_list PySem.F.slot_list_append PySem.F.type_list_append mt_append (pv 4) (pa_cons (pe_fld (pv 5) rfl) pa_nil)))
        (pss_one (ps_expr (pe_bm PySem.F.plainAttrs_list PySem.F.slot_list_extend PySem.F.type_list_extend mt_extend (pv 4) (pa_cons (pe_call (ok_counted g) (hr.mono (by decide)) rfl g.f_counted.m g.f_counted.F.kp g.f_counted.b .nil pass0 (pa_cons (pe_fld (pv 5) rfl) pa_nil)) pa_nil))))))
      (pss_one (ps_ret (pv 4))))))))),?_⟩
    refine ⟨_,rfl,rf_Held_now g ho ⟨N,x,ta,sl,as,h.text,h.stretches,fr,rfl,C,fun th tl wl ats aws H1 T0=>?_⟩⟩
    have T:=ThB.of C T0
    obtain ⟨dt,nt,bt,hth⟩:=T.obj
    have hal:(ats.map V.ref).length=h.things.tokens.length:=by rw [List.length_map,T.toks.1]
    have none:(i < 0 ∨ (h.things.tokens.length:Int) < i)->∀ p,H1 p=none->Q (.ref p) (upd H1 p (.lst [.int (-3)])):=fun z=>q.one T.base (-3) (by unfold Vafmta.told; simp only; rw [if_neg (by omega),Cm.at_none (by omega)])
    refine ⟨_,rfl,_,_,rfl,rfl,_,rfl,ite2 (fun h1=>?_) (fun h1=>?_)⟩
    · exact ⟨(by show 1 ≤ sizeLine; decide),none (.inl (of_decide_eq_true h1))⟩
    have n1:¬ i < 0:=fun z=>h1 (decide_eq_true z)
    refine ⟨_,rfl,_,rfl,rf_Things_tokens g hth ⟨_,_,rfl,.inl (SqL.of T.ltl),_,_,rfl,rfl,_,rfl,ite2 (fun h2=>?_) (fun h2=>?_)⟩⟩
    · exact ⟨(by show 1 ≤ sizeLine; decide),none (.inr (by have:=of_decide_eq_true h2; rw [hal] at this; exact this))⟩
    have n2:¬ (h.things.tokens.length:Int) < i:=fun z=>h2 (decide_eq_true (by rw [hal]; exact z))
    have fin:∀ (v0:Addr) (ac:List Addr) (ls:List Vafmta.Lead),H1 v0=some (.lst (ac.map V.ref))->Ats (CommentAt g (fun _=>True) H1) ac ls->Cm.leadsW ls ≤ 60000->Vafmta.told h (.leads i)=Vafmta.leadsAnswer ls →
        tSeq (tAsg (tLst (tCons (tCB (fun xs H Q=>∃ p ys,xs=[.ref p]∧(SqL K H p ys ∨ SqT K H p ys)∧Q (.int ys.length) H) (tCons (tVar 3) tNil)) tNil)) (gName 4))
          (tSeq (tFor (iList K (tVar 3)) (gName 5) (tSeq (tDrop (tBM K "list" rAppend (tVar 4) (tCons (tFld K (tVar 5) "gap") tNil))) (tDrop (tBM K "list" rExtend (tVar 4) (tCons (tCall sp_counted [] E0 (tCons (tFld K (tVar 5) "row") tNil)) tNil)))))
          (tRet (tVar 4))) { nx:=fun _ H'=>Q .non H',rt:=Q } [some (.ref hd),some (.int i),some (.ref th),some (.ref v0),Option.none,Option.none] H1:=by
      intro v0 ac ls hv0 hac hw et
      have hl0:=Cm.leadsW_len ls
      refine ⟨_,rfl,_,_,rfl,.inl (SqL.of hv0),(by show 1 ≤ sizeLine; decide),fun l hl=>?_⟩
      have sl1:Same H1 (upd H1 l (.lst [.int ((ac.map V.ref).length:Int)])):=same_new hl
      have hacl:(ac.map V.ref).length=ls.length:=by rw [List.length_map,hac.1]
      refine ⟨_,rfl,v0,rfl,⟨_,SqL.of (sl1 _ _ hv0)⟩,for_list (K:=K) (a:=v0) (xs:=ac.map V.ref) (fun j σ H'=>∃ v,σ=[some (.ref hd),some (.int i),some (.ref th),some (.ref v0),some (.ref l),v]∧Same H1 H'∧H' l=some (.lst (.int (ls.length:Int) :: (ls.take j).flatMap leadV))) ?_ ?_ ?_ ?_⟩
      · exact ⟨Option.none,rfl,sl1,by rw [upd_same,hacl]; rfl⟩
      · rintro j σ H2 _ ⟨v,rfl,s2,_⟩
        exact SqL.of (s2 _ _ hv0)
      · rintro j y σ H2 hj ⟨v,rfl,s2,hl2⟩
        obtain ⟨a,ea,rfl⟩:=ref_get hj
        obtain ⟨c,ec,hc⟩:=hac.get ea
        obtain ⟨da,r,_,hca,hcr⟩:=hc
        have hlen:((ls.take (j + 1)).flatMap leadV).length ≤ 60000:=by rw [leads_len]; exact Nat.le_trans (leadsW_take ls _) hw
        rw [take_snoc ec,List.flatMap_append,List.length_append] at hlen
        have hlc:([c].flatMap leadV).length=c.text.length + 2:=by simp [leadV,bV_len]
        rw [hlc] at hlen
        refine ⟨_,rfl,.inl ⟨rfl,_,SqL.of hl2⟩,_,rfl,rf_Comment_gap g (s2 _ _ hca) ⟨l,_,_,rfl,rfl,hl2,lim1 (k:=100000) (by rw [List.length_cons]; omega),?_⟩⟩
        generalize e3:upd H2 l (.lst (.int (ls.length:Int) :: (ls.take j).flatMap leadV ++ [.int (Vafmta.truth c.gap)]))=H3
        have s3:Same H1 H3:=by rw [← e3]; exact same_upd s2 hl
        have hl3:H3 l=some (.lst (.int (ls.length:Int) :: (ls.take j).flatMap leadV ++ [.int (Vafmta.truth c.gap)])):=by rw [← e3]; exact upd_same
        refine ⟨_,rfl,.inl ⟨rfl,_,SqL.of hl3⟩,_,rfl,rf_Comment_row g (s3 _ _ hca) ⟨r,_,rfl,s3 _ _ hcr,by rw [bV_len]; omega,fun l4 H4 s4 nl4 hl4=>?_⟩⟩
        refine ⟨l,l4,_,_,rfl,rfl,s4 _ _ hl3,hl4,lim (k:=200000) (by rw [List.length_append,List.length_cons,List.length_cons,List.length_cons,bV_len,List.length_nil]; omega),?_⟩
        refine ⟨_,rfl,same_upd (s3.trans s4) hl,?_⟩
        rw [upd_same,take_snoc ec,List.flatMap_append]
        simp [leadV,bV_len]
      · rintro σ H2 ⟨v,rfl,s2,hl2⟩
        rw [hacl,List.take_length] at hl2
        have e:ansV (Vafmta.told h (.leads i)) = .int (ls.length:Int) :: ls.flatMap leadV:=by rw [et,leads_ans]
        refine ⟨_,rfl,q l H2 (T.base.free hl) (T.base.trans s2) (by rw [e]; exact hl2) ?_⟩
        rw [e,List.length_cons,leads_len]
        omega
    refine ⟨_,rfl,rf_Things_waiting g hth ?_⟩
    refine ⟨_,rfl,_,rfl,rf_Things_tokens g hth ⟨_,_,rfl,.inl (SqL.of T.ltl),_,_,rfl,rfl,_,rfl,ite2 (fun h3=>?_) (fun h3=>?_)⟩⟩
    · have h3':=of_decide_eq_true h3
      rw [hal] at h3'
      obtain ⟨k,ek,ek2⟩:=Cm.at_some (l:=h.things.tokens) n1 (by omega)
      obtain ⟨a,ea,hk⟩:=T.toks.get' ek2
      obtain ⟨da,r,ll,aa,bh,_,_,hka,hkr,hkl,hkc,hkb⟩:=hk
      have kw:=T.kw k (List.mem_of_getElem? ek2)
      refine ⟨_,rfl,rf_Things_tokens g hth ⟨_,rfl,tl,_,_,V.ref a,rfl,rfl,SqL.of T.ltl,at_of (j:=i.toNat) (by omega) (by rw [List.getElem?_map,ea]; rfl),rf_Token_leading g hka ?_⟩⟩
      refine fin ll aa k.leads hkl hkc kw.1 ?_
      unfold Vafmta.told
      simp only
      rw [if_neg (by omega),ek]
    · have h3':¬ i < (h.things.tokens.length:Int):=fun z=>h3 (decide_eq_true (by rw [hal]; exact z))
      refine fin wl aws h.things.tail T.lwl T.wait T.tw ?_
      unfold Vafmta.told
      simp only
      rw [if_pos (by omega)]
end
end Cb
end
section
set_option maxRecDepth 100000
set_option maxHeartbeats 4000000
namespace Cb
open PySem PySem.Spec PyProof.Rows L2
open Cm (bi)
theorem lc_pairs {K:PySem.W.Frag}{a:Addr}{xs:List V}{ps:List Vafmta.Piece}{g:TG}{te:TE}{vs:List Nat}{σ:L2.St}{H1:Hp}{D:Addr}{Qd:Hp->Prop} (hlen:xs.length=ps.length) (hz:xs.length ≤ 100000) (hD:H1 D=none) (hl:SqL K H1 a xs)
    (hs:∀ (i:Nat) (x:V) (H:Hp),xs[i]?=some x->Same H1 H->∀ (C:VK),(∀ (p:Addr) (H':Hp) (pc:Vafmta.Piece) (r:Addr),ps[i]?=some pc->H' p=some (.tup [.int (Vafmta.kindNo pc.kind),.ref r])->TextAt H1 r pc.text->Same H H'->C (.ref p) H') →
      g x (wipe σ vs) H fun σ2 H2=>wipe σ2 vs=wipe σ vs∧te σ2 H2 C)
    (hd:∀ H pa,Same H1 H->H D=some (.lst (pa.map V.ref))->Ats (PairAt (fun _=>True) H) pa ps->Qd H) :
    ∃ W:Nat->Nat->Hp->Prop,(∃ m,W 0 m (upd H1 D (.lst [])))∧∀ i m H,W i m H →
      ((Itl K a).stop i H∧Qd H) ∨ ((Itl K a).go i H∧∃ Nx:Hp->Prop,(∀ H',Nx H'->∃ m',m' < m∧W (i + 1) m' H')∧∀ x H',(Itl K a).yld i H x H'->g x (wipe σ vs) H' fun σ2 H2=>wipe σ2 vs=wipe σ vs∧tYes σ2 H2 fun b H3 =>
        if b=true then te σ2 H3 fun y H4=>∃ acc,H4 D=some (.lst acc)∧acc.length < sizeLine∧Nx (upd H4 D (.lst (acc ++ [y]))) else Nx H3):=by
  refine ⟨fun i m H=>∃ pa:List Addr,m=xs.length - i∧i ≤ xs.length∧H D=some (.lst (pa.map V.ref))∧Same H1 H∧Ats (fun p (pc:Vafmta.Piece)=>∃ r,H p=some (.tup [.int (Vafmta.kindNo pc.kind),.ref r])∧TextAt H1 r pc.text) pa (ps.take i),⟨xs.length,[],by simp,Nat.zero_le _,upd_same,same_new hD,.nil⟩,?_⟩
  rintro i m H ⟨pa,rfl,hi,hDi,s,ha⟩
  by_cases hlt:i < xs.length
  · refine .inr ⟨⟨xs,xs[i],s.seq hl,List.getElem?_eq_getElem hlt⟩,_,fun H' z=>z,?_⟩
    rintro v H' ⟨rfl,hx⟩
    refine hs i v _ (hx xs (s.seq hl)) s _ fun p H2 pc r epc hp hr s2=>?_
    have hpl:pa.length=i:=by rw [ha.1,List.length_take]; omega
    have hD2:=s2 _ _ hDi
    refine ⟨_,hD2,lim1 (k:=100000) (by rw [List.length_map,hpl]; omega),xs.length - (i + 1),by omega,pa ++ [p],rfl,by omega,by rw [upd_same,List.map_append]; rfl,same_upd (s.trans s2) hD,?_⟩
    rw [take_snoc epc]
    refine Ats.snoc (ha.imp fun y k ⟨r',h1,h2⟩=>⟨r',?_,h2⟩) ⟨r,?_,hr⟩
    · rw [upd_ne (ne_of (s2 _ _ h1) hD2 (by intro z; cases z))]
      exact s2 _ _ h1
    · rw [upd_ne (ne_of hp hD2 (by intro z; cases z))]
      exact hp
  · have e:i=xs.length:=by omega
    subst e
    rw [hlen,List.take_length] at ha
    exact .inl ⟨⟨xs,s.seq hl,Nat.le_refl _⟩,hd H pa s hDi (ha.imp fun y p ⟨r,h1,h2⟩=>⟨r,trivial,h1,s _ _ h2⟩)⟩
theorem CutAt.few2 {K:PySem.W.Frag}{mg:Str->Option Value}{g:Pg K mg}{N:Addr->Prop}{H:Hp}{x ta sl:Addr}{as:List Addr}{t:Vafmta.Bytes}{ss:List Vafmta.Stretch}{fr:Int} (h:CutAt g N H x ta sl as t ss fr):ss.length ≤ 20001:=by
  have hne:ss ≠ []:=h.good.ne
  have key:∀ k,k + 1 ≤ ss.length->k ≤ MC.sz ss k:=by
    intro k
    induction k with
    | zero=>intro _; omega
    | succ k ih =>
      intro hk
      have:=ih (by omega)
      have:=h.good.lt (show k < k + 1 by omega) (by omega)
      omega
  have h1:=key (ss.length - 1) (by have:0 < ss.length:=List.length_pos_iff.mpr hne; omega)
  have h2:=h.good.sz_le (ss.length - 1)
  have:=h.len
  omega
section
variable {P:Program}{w:World}{K:PySem.W.Frag}{mg:Str->Option Value}{base:Heap}
def sp_Held_tell_stretches (g:Pg K mg):Sp:=fun vs H Q _=>∃ (hd:Addr) (h:Vafmta.Held),vs=[.ref hd]∧HAt g H hd h∧Tells H Q (Vafmta.told h .stretches)
theorem ok_Held_tell_stretches (g:Pg K mg):FnOk P w K mg base CX0 2 g.m_Held_tell_stretches.a g.m_Held_tell_stretches.fd ["self"] (sp_Held_tell_stretches g):=by
  refine g.m_Held_tell_stretches.F.ok sc_Held_tell_stretches (fun vs H Q E h=>?_) (fun cdv A outer s H vs Q E hr h=>?_)
  · obtain ⟨hd,h,rfl,_⟩:=h; rfl
  · obtain ⟨hd,h,rfl,⟨N,dx,x,bf,ho,ta,sl,as,fr,C⟩,q⟩:=h
    refine ⟨_,(pss_one (ps_ret (pe_call (ok_counted g) (hr.mono (by decide)) rfl g.f_counted.m g.f_counted.F.kp g.f_counted.b .nil pass0 (pa_cons (pe_call (ok_ends_of g) (hr.mono (by decide)) rfl g.f_ends_of.m g.f_ends_of.F.kp g.f_ends_of.b .nil pass0 (pa_cons (pe_fld (pe_fld (pv 0) rfl) rfl) pa_nil)) pa_nil)))),?_⟩
    obtain ⟨dc,hc⟩:=C.obj
    have hf:=C.few2
    refine ⟨_,rfl,rf_Held_now g ho (rf_Cut_stretches g hc ⟨sl,h.stretches,rfl,C.stsX,C.few,fun e H1 s1 ne he=>⟨e,_,rfl,he,by rw [endsV_len]; omega,fun l H2 s2 nl hl=>?_⟩⟩)⟩
    have ea:ansV (Vafmta.told h .stretches) = .int ((endsV h.stretches h.stretches.length).length:Int) :: endsV h.stretches h.stretches.length:=by
      show V.int (Int.ofNat h.stretches.length) :: ((Vafmta.endsFrom 0 h.stretches).map Int.ofNat).map V.int=_
      rw [Cm.ends_ints,List.map_map,endsV_len]
      rfl
    exact q l H2 (s1.free nl) (s1.trans s2) (by rw [ea]; exact hl) (by rw [ea,List.length_cons,endsV_len]; omega)
def sp_Held_tell_stretch (g:Pg K mg):Sp:=fun vs H Q _=>∃ (hd:Addr) (h:Vafmta.Held) (k:Int),vs=[.ref hd,.int k]∧HAt g H hd h∧Tells H Q (Vafmta.told h (.stretch k))
theorem ok_Held_tell_stretch (g:Pg K mg):FnOk P w K mg base CX0 2 g.m_Held_tell_stretch.a g.m_Held_tell_stretch.fd ["self","k"] (sp_Held_tell_stretch g):=by
  refine g.m_Held_tell_stretch.F.ok sc_Held_tell_stretch (fun vs H Q E h=>?_) (fun cdv A outer s H vs Q E hr h=>?_)
  · obtain ⟨hd,h,k,rfl,_⟩:=h; rfl
  · obtain ⟨hd,h,k,rfl,⟨N,dx,x,bf,ho,ta,sl,as,fr,C⟩,q⟩:=h
    refine ⟨_,(pss_cons (ps_set (i:=2) sc_Held_tell_stretch.nd rfl (Or.inl rfl) (pe_fld (pe_fld (pv 0) rfl) rfl))
      (pss_cons (ps_if (PW.pt (pw_or (pt_cmpR op_lt (pv 1) pe_int (nomark _)) (pw_or1 (pt_cmpR op_ge (pv 1) (pe_callB call_len_seq (by rfl) g.n_len PySem.boot_len (pa_cons (pv 2) pa_nil)) (nomark _))))) (pss_one (ps_ret (pe_lst (pa_cons (pe_gint rfl g.g_NO_SUCH) pa_nil)))) pss_nil)
      (pss_cons (ps_set (i:=3) sc_Held_tell_stretch.nd rfl (Or.inl rfl) (pe_slice sl_list (pv 2) po_none (po_some (pv 1))))
      (pss_one (ps_ret (pe_lst (pa_cons (pe_call (ok_total_size g) (hr.mono (by decide)) rfl g.f_total_size.m g.f_total_size.F.kp g.f_total_size.b .nil pass0 (pa_cons (pv 3) pa_nil)) (pa_cons (pe_fld (pe_ix ix_list (pv 2) (pv 1) (fun _ _=>rfl)) rfl) (pa_cons (pe_call (ok_token_count g) (hr.mono (by decide)) rfl g.f_token_count.m g.f_token_count.F.kp g.f_token_count.b .nil pass0 (pa_cons (pv 3) pa_nil)) (pa_cons (pe_fld (pe_ix ix_list (pv 2) (pv 1) (fun _ _=>rfl)) rfl) pa_nil)))))))))),?_⟩
    obtain ⟨dc,hc⟩:=C.obj
    have hal:(as.map V.ref).length=h.stretches.length:=by rw [List.length_map,C.sts.1]
    refine ⟨_,rfl,rf_Held_now g ho (rf_Cut_stretches g hc ?_)⟩
    have none:(k < 0 ∨ (h.stretches.length:Int) ≤ k)->∀ p,H p=none->Q (.ref p) (upd H p (.lst [.int (-3)])):=fun z=>q.one (.refl H) (-3) (by show Vafmta.stretchAnswer h k=_; unfold Vafmta.stretchAnswer; rw [Cm.at_none z])
    refine ⟨_,rfl,_,_,rfl,rfl,_,rfl,ite2 (fun h1=>?_) (fun h1=>?_)⟩
    · exact ⟨(by show 1 ≤ sizeLine; decide),none (.inl (of_decide_eq_true h1))⟩
    have n1:¬ k < 0:=fun z=>h1 (decide_eq_true z)
    refine ⟨_,rfl,_,rfl,_,_,rfl,.inl (SqL.of C.lst),_,_,rfl,rfl,_,rfl,ite2 (fun h2=>?_) (fun h2=>?_)⟩
    · exact ⟨(by show 1 ≤ sizeLine; decide),none (.inr (by have:=of_decide_eq_true h2; rw [hal] at this; exact this))⟩
    have n2:¬ (h.stretches.length:Int) ≤ k:=fun z=>h2 (decide_eq_true (by rw [hal]; exact z))
    obtain ⟨z,ez,ez2⟩:=Cm.at_some n1 n2
    obtain ⟨n,rfl⟩:∃ n:Nat,k=(n:Int):=⟨k.toNat,by omega⟩
    rw [Int.toNat_natCast] at ez2
    obtain ⟨a,ea⟩:∃ a,as[n]?=some a:=⟨_,List.getElem?_eq_getElem (by rw [C.sts.1]; omega)⟩
    obtain ⟨dz,lz,az,_,hz,_⟩:=C.sts.2 n a z ea ez2
    have hat:atI (as.map V.ref) (n:Int)=some (V.ref a):=atI_nat (by rw [List.getElem?_map,ea]; rfl)
    refine ⟨_,rfl,_,rfl,_,rfl,sl,_,rfl,SqL.of C.lst,fun p hp=>?_⟩
    rw [cut_left (by rw [hal]; omega),← List.map_take]
    have s1:Same H (upd H p (.lst ((as.take n).map V.ref))):=same_new hp
    have C1:=C.same s1
    have hst:Strs g (upd H p (.lst ((as.take n).map V.ref))) p (h.stretches.take n):=⟨N,_,as.take n,upd_same,C1.sts.take n⟩
    have hfew:(h.stretches.take n).length ≤ 100000:=by rw [List.length_take]; have:=C.few; omega
    refine ⟨_,rfl,p,_,rfl,hst,hfew,fun H2 s2=>?_⟩
    have s12:=s1.trans s2
    refine ⟨_,rfl,_,rfl,sl,_,_,V.ref a,rfl,rfl,SqL.of (s12 _ _ C.lst),hat,rf_Stretch_size g (s12 _ _ hz) ⟨_,rfl,p,_,rfl,?_,hfew,fun H3 s3=>?_⟩⟩
    · obtain ⟨N',cl',as',q1,q2⟩:=hst
      exact ⟨N',cl',as',s2 _ _ q1,q2.same s2⟩
    have s13:=s12.trans s3
    refine ⟨_,rfl,_,rfl,sl,_,_,V.ref a,rfl,rfl,SqL.of (s13 _ _ C.lst),hat,rf_Stretch_tokens g (s13 _ _ hz) ⟨(by show 4 ≤ sizeLine; decide),fun p4 hp4=>?_⟩⟩
    have e:ansV (Vafmta.told h (.stretch (n:Int)))=[.int (MC.total (h.stretches.take n):Int),.int (Vafmta.sizeOf_ z:Int),.int (Vafmta.tokensIn (h.stretches.take n):Int),.int ((Vafmta.tokenPieces z).length:Int)]:=by
      show ansV (Vafmta.stretchAnswer h (n:Int))=_
      unfold Vafmta.stretchAnswer
      rw [ez]
      rfl
    exact q p4 _ (s13.free hp4) (s13.trans (same_new hp4)) (by rw [e]; exact upd_same) (by rw [e]; show 4 ≤ 100000; decide)
def sp_Held_tell_place (g:Pg K mg):Sp:=fun vs H Q _=>∃ (hd:Addr) (h:Vafmta.Held) (n:Int),vs=[.ref hd,.int n]∧HAt g H hd h∧Tells H Q (Vafmta.told h (.place n))
theorem ok_Held_tell_place (g:Pg K mg):FnOk P w K mg base CX0 3 g.m_Held_tell_place.a g.m_Held_tell_place.fd ["self","n"] (sp_Held_tell_place g):=by
  refine g.m_Held_tell_place.F.ok sc_Held_tell_place (fun vs H Q E h=>?_) (fun cdv A outer s H vs Q E hr h=>?_)
  · obtain ⟨hd,h,n,rfl,_⟩:=h; rfl
  · obtain ⟨hd,h,n,rfl,⟨N,dx,x,bf,ho,ta,sl,as,fr,C⟩,q⟩:=h
    refine ⟨_,(pss_cons (ps_if (PW.pt (pw_or (pt_cmpR op_lt (pv 1) pe_int (nomark _)) (pw_or1 (pt_cmpR op_gt (pv 1) (pe_callB call_len_seq (by rfl) g.n_len PySem.boot_len (pa_cons (pe_fld (pe_fld (pv 0) rfl) rfl) pa_nil)) (nomark _))))) (pss_one (ps_ret (pe_lst (pa_cons (pe_gint rfl g.g_NO_PLACE) pa_nil)))) pss_nil)
      (pss_one (ps_ret (pe_op op_cat (pe_callTy call_list_of (by rfl) g.n_list boot_list (pa_cons (pe_call (ok_line_and_column g) (hr.mono (by decide)) rfl g.f_line_and_column.m g.f_line_and_column.F.kp g.f_line_and_column.b .nil pass0 (pa_cons (pe_fld (pe_fld (pv 0) rfl) rfl) (pa_cons (pv 1) pa_nil))) pa_nil)) (pe_callTy call_list_of (by rfl) g.n_list boot_list (pa_cons (pe_call (ok_kind_and_number g) (hr.mono (by decide)) rfl g.f_kind_and_number.m g.f_kind_and_number.F.kp g.f_kind_and_number.b .nil pass0 (pa_cons (pe_fld (pv 0) rfl) (pa_cons (pv 1) pa_nil))) pa_nil)))))),?_⟩
    obtain ⟨dc,hc⟩:=C.obj
    have none:(n < 0 ∨ (h.text.length:Int) < n)->∀ p,H p=none->Q (.ref p) (upd H p (.lst [.int (-2)])):=fun z=>q.one (.refl H) (-2) (by show Vafmta.placeAnswer h n=_; unfold Vafmta.placeAnswer; rw [if_pos z])
    refine ⟨_,rfl,_,_,rfl,rfl,_,rfl,ite2 (fun h1=>?_) (fun h1=>?_)⟩
    · exact ⟨(by show 1 ≤ sizeLine; decide),none (.inl (of_decide_eq_true h1))⟩
    have n1:¬ n < 0:=fun z=>h1 (decide_eq_true z)
    refine ⟨_,rfl,_,rfl,rf_Held_now g ho (rf_Cut_text g hc ⟨_,_,rfl,.inl (SqL.of C.txt),_,_,rfl,rfl,_,rfl,ite2 (fun h2=>?_) (fun h2=>?_)⟩)⟩
    · exact ⟨(by show 1 ≤ sizeLine; decide),none (.inr (by have:=of_decide_eq_true h2; rw [bV_len] at this; exact this))⟩
    have n2:¬ (h.text.length:Int) < n:=fun z=>h2 (decide_eq_true (by rw [bV_len]; exact z))
    obtain ⟨m,rfl⟩:∃ m:Nat,n=(m:Int):=⟨n.toNat,by omega⟩
    refine ⟨_,rfl,rf_Held_now g ho (rf_Cut_text g hc ⟨_,rfl,ta,h.text,m,rfl,C.txt,by omega,fun p1 H1 s1 hp1=>⟨p1,_,rfl,.inr (SqT.of hp1),fun l2 hl2=>?_⟩⟩)⟩
    generalize e2:upd H1 l2 (.lst [.int (Vafmta.lineOf h.text m:Int),.int (Vafmta.columnOf h.text m:Int)])=H2
    have s2:Same H1 H2:=by rw [← e2]; exact same_new hl2
    have hl2':H2 l2=some (.lst [.int (Vafmta.lineOf h.text m:Int),.int (Vafmta.columnOf h.text m:Int)]):=by rw [← e2]; exact upd_same
    have s12:=s1.trans s2
    refine ⟨_,rfl,rf_Held_now g (s12 _ _ ho) ⟨_,rfl,N,x,ta,sl,as,h.text,h.stretches,fr,m,rfl,C.same s12,fun p3 H3 s3 hp3=>⟨p3,_,rfl,.inr (SqT.of hp3),fun l4 hl4=>?_⟩⟩⟩
    generalize e4:upd H3 l4 (.lst [.int (Cm.kindNum m 0 h.stretches.flatten).1,.int (Cm.kindNum m 0 h.stretches.flatten).2])=H4
    have s4:Same H3 H4:=by rw [← e4]; exact same_new hl4
    refine ⟨l2,l4,_,_,rfl,rfl,s4 _ _ (s3 _ _ hl2'),by rw [← e4]; exact upd_same,lim (k:=10) (by simp),fun p5 hp5=>?_⟩
    have e:ansV (Vafmta.told h (.place (m:Int)))=[.int (Vafmta.lineOf h.text m:Int),.int (Vafmta.columnOf h.text m:Int)] ++ [.int (Cm.kindNum m 0 h.stretches.flatten).1,.int (Cm.kindNum m 0 h.stretches.flatten).2]:=by
      show ansV (Vafmta.placeAnswer h (m:Int))=_
      unfold Vafmta.placeAnswer
      rw [if_neg (by omega),Cm.pieces_flat]
      unfold Cm.kindNum
      simp only [Int.toNat_natCast]
      cases Vafmta.pieceAt m 0 h.stretches.flatten <;> rfl
    exact q p5 _ ((s12.trans (s3.trans s4)).free hp5) ((s12.trans (s3.trans s4)).trans (same_new hp5)) (by rw [e]; exact upd_same) (by rw [e]; show 4 ≤ 100000; decide)
def sp_Held_tell_offset (g:Pg K mg):Sp:=fun vs H Q _=>∃ (hd:Addr) (h:Vafmta.Held) (l c:Int),vs=[.ref hd,.int l,.int c]∧HAt g H hd h∧Tells H Q (Vafmta.told h (.offset l c))
theorem ok_Held_tell_offset (g:Pg K mg):FnOk P w K mg base CX0 4 g.m_Held_tell_offset.a g.m_Held_tell_offset.fd ["self","line","column"] (sp_Held_tell_offset g):=by
  refine g.m_Held_tell_offset.F.ok sc_Held_tell_offset (fun vs H Q E h=>?_) (fun cdv A outer s H vs Q E hr h=>?_)
  · obtain ⟨hd,h,l,c,rfl,_⟩:=h; rfl
  · obtain ⟨hd,h,l,c,rfl,⟨N,dx,x,bf,ho,ta,sl,as,fr,C⟩,q⟩:=h
    refine ⟨_,(pss_cons (ps_set (i:=3) sc_Held_tell_offset.nd rfl (Or.inl rfl) (pe_call (ok_place_at g) (hr.mono (by decide)) rfl g.f_place_at.m g.f_place_at.F.kp g.f_place_at.b .nil pass0 (pa_cons (pe_fld (pe_fld (pv 0) rfl) rfl) (pa_cons (pv 1) (pa_cons (pv 2) pa_nil)))))
      (pss_one (ps_ret (pe_ifExp (pt_cmpR op_lt (pv 3) pe_int (nomark _)) (pe_lst (pa_cons (pe_gint rfl g.g_NO_PLACE) pa_nil)) (pe_lst (pa_cons (pv 3) pa_nil)))))),?_⟩
    obtain ⟨dc,hc⟩:=C.obj
    refine ⟨_,rfl,rf_Held_now g ho (rf_Cut_text g hc ⟨_,rfl,_,rfl,ta,h.text,l,c,rfl,C.txt,C.len,fun H1 s1=>?_⟩)⟩
    have hv:(Cm.placeI h.text l c < 0∧Vafmta.told h (.offset l c)=Vafmta.refusal (-2)) ∨ (¬ Cm.placeI h.text l c < 0∧ansV (Vafmta.told h (.offset l c))=[.int (Cm.placeI h.text l c)]):=by
      unfold Cm.placeI Vafmta.told
      simp only
      by_cases hlc:l < 0 ∨ c < 0
      · rw [if_pos hlc,if_pos hlc]
        exact .inl ⟨by decide,rfl⟩
      · rw [if_neg hlc,if_neg hlc]
        cases Vafmta.placeAt h.text l.toNat c.toNat with
        | none=>exact .inl ⟨by decide,rfl⟩
        | some n=>exact .inr ⟨by simp only; omega,rfl⟩
    refine ⟨_,rfl,_,_,rfl,rfl,_,rfl,ite2 (fun h1=>?_) (fun h1=>?_)⟩
    · have:=of_decide_eq_true h1
      rcases hv with ⟨_,e⟩ | ⟨n,_⟩
      · exact ⟨(by show 1 ≤ sizeLine; decide),q.one s1 (-2) e⟩
      · exact absurd this n
    · rcases hv with ⟨n,_⟩ | ⟨_,e⟩
      · exact absurd (decide_eq_true n) h1
      · exact ⟨_,rfl,(by show 1 ≤ sizeLine; decide),fun p hp=>q p _ (s1.free hp) (s1.trans (same_new hp)) (by rw [e]; exact upd_same) (by rw [e]; show 1 ≤ 100000; decide)⟩
def sp_Held_tell_same (g:Pg K mg):Sp:=fun vs H Q _=>∃ (hd:Addr) (h:Vafmta.Held) (ra:Addr) (r:Vafmta.Bytes),vs=[.ref hd,.ref ra]∧HAt g H hd h∧TextAt H ra r∧Tells H Q (Vafmta.told h (.same r))
theorem ok_Held_tell_same (g:Pg K mg):FnOk P w K mg base CX0 10 g.m_Held_tell_same.a g.m_Held_tell_same.fd ["self","row"] (sp_Held_tell_same g):=by
  refine g.m_Held_tell_same.F.ok sc_Held_tell_same (fun vs H Q E h=>?_) (fun cdv A outer s H vs Q E hr h=>?_)
  · obtain ⟨hd,h,ra,r,rfl,_⟩:=h; rfl
  · obtain ⟨hd,h,ra,r,rfl,⟨N,dx,x,bf,ho,ta,sl,as,fr,C⟩,hra,q⟩:=h
    refine ⟨_,(pss_cons (ps_if (pt_cmpR op_gt (pe_callB call_len_seq (by rfl) g.n_len PySem.boot_len (pa_cons (pv 1) pa_nil)) (pe_gint rfl g.g_MOST_BYTES) (nomark _)) (pss_one (ps_ret (pe_lst (pa_cons (pe_gint rfl g.g_TOO_LONG) pa_nil)))) pss_nil)
      (pss_cons (ps_set (i:=2) sc_Held_tell_same.nd rfl (Or.inl rfl) (pe_call (ok_first_difference g) (hr.mono (by decide)) rfl g.f_first_difference.m g.f_first_difference.F.kp g.f_first_difference.b .nil pass0 (pa_cons (pe_call (ok_things_of g) (hr.mono (by decide)) rfl g.f_things_of.m g.f_things_of.F.kp g.f_things_of.b .nil pass0 (pa_cons (pe_fld (pv 0) rfl) pa_nil)) (pa_cons (pe_call (ok_things_of g) (hr.mono (by decide)) rfl g.f_things_of.m g.f_things_of.F.kp g.f_things_of.b .nil pass0 (pa_cons (pe_call (ok_cut_whole g) (hr.mono (by decide)) rfl g.f_cut_whole.m g.f_cut_whole.F.kp g.f_cut_whole.b .nil pass0 (pa_cons (pv 1) pa_nil)) pa_nil)) pa_nil))))
      (pss_one (ps_ret (pe_ifExp (pt_cmpR op_lt (pv 2) pe_int (nomark _)) (pe_lst (pa_cons pe_int pa_nil)) (pe_lst (pa_cons pe_int (pa_cons (pv 2) pa_nil)))))))),?_⟩
    refine ⟨_,rfl,_,_,rfl,.inl (SqL.of hra),_,_,rfl,rfl,_,rfl,ite2 (fun h1=>?_) (fun h1=>?_)⟩
    · have:=of_decide_eq_true h1
      rw [bV_len] at this
      refine ⟨(by show 1 ≤ sizeLine; decide),q.one (.refl H) (-1) ?_⟩
      unfold Vafmta.told
      simp only
      rw [if_pos (show Vafmta.MOST < r.length by unfold Vafmta.MOST; omega)]
    have hrl:r.length ≤ 4000:=by
      have:¬ (4000:Int) < (bV r).length:=fun z=>h1 (decide_eq_true z)
      rw [bV_len] at this
      omega
    refine ⟨_,rfl,rf_Held_now g ho ⟨N,x,ta,sl,as,h.text,h.stretches,fr,rfl,C,fun th tl wl ats aws H1 T0=>?_⟩⟩
    have T:=ThB.of C T0
    refine ⟨_,rfl,fun _=>True,ra,r,rfl,fun _ _=>trivial,T.base _ _ hra,trivial,by omega,fun x2 sl2 as2 H2 s2 nx2 C2=>?_⟩
    refine ⟨fun _=>True,x2,ra,sl2,as2,r,Vafmta.stretchesOf r,_,rfl,C2,fun th2 tl2 wl2 ats2 aws2 H3 T0'=>?_⟩
    have T2:=ThB.of (h:=Vafmta.loaded r) C2 T0'
    have T1:=(T.same s2).same T2.base
    have at1:ThAt g H3 th h.things.tokens h.things.tail:=by obtain ⟨dt,nt,bt,hth⟩:=T1.obj; exact ⟨_,dt,tl,wl,ats,aws,nt,bt,hth,T1.ltl,T1.lwl,T1.toks,T1.wait⟩
    have at2:ThAt g H3 th2 (Vafmta.loaded r).things.tokens (Vafmta.loaded r).things.tail:=by obtain ⟨dt,nt,bt,hth⟩:=T2.obj; exact ⟨_,dt,tl2,wl2,ats2,aws2,nt,bt,hth,T2.ltl,T2.lwl,T2.toks,T2.wait⟩
    have lw:∀ l:List Vafmta.Lead,Cm.leadsW l ≤ 60000->l.length ≤ 100000:=fun l hl=>by have:=Cm.leadsW_len l; omega
    refine ⟨th,th2,_,_,_,_,rfl,at1,at2,by have:=T.nt; omega,by have:=T2.nt; omega,fun t ht=>lw _ (T.kw t ht).1,fun t ht=>lw _ (T2.kw t ht).1,lw _ T.tw,lw _ T2.tw,fun H4 s4=>?_⟩
    have sAll:Same H H4:=(T.base.trans s2).trans (T2.base.trans s4)
    have ev:ansV (Vafmta.told h (.same r))=(if Cm.diffI h.things.tokens (Vafmta.loaded r).things.tokens h.things.tail (Vafmta.loaded r).things.tail < 0 then [V.int 0] else [V.int 1,V.int (Cm.diffI h.things.tokens (Vafmta.loaded r).things.tokens h.things.tail (Vafmta.loaded r).things.tail)]):=by
      unfold Vafmta.told Cm.diffI
      simp only
      rw [if_neg (show ¬ Vafmta.MOST < r.length by unfold Vafmta.MOST; omega)]
      cases Vafmta.unlike 0 h.things.tokens (Vafmta.loaded r).things.tokens h.things.tail (Vafmta.loaded r).things.tail with
      | none=>simp only; rw [if_pos (by decide)]; rfl
      | some n=>simp only; rw [if_neg (by omega)]; rfl
    refine ⟨_,rfl,_,_,rfl,rfl,_,rfl,ite2 (fun h2=>?_) (fun h2=>?_)⟩
    · rw [if_pos (of_decide_eq_true h2)] at ev
      exact ⟨(by show 1 ≤ sizeLine; decide),fun p hp=>q p _ (sAll.free hp) (sAll.trans (same_new hp)) (by rw [ev]; exact upd_same) (by rw [ev]; show 1 ≤ 100000; decide)⟩
    · rw [if_neg (fun z=>h2 (decide_eq_true z))] at ev
      exact ⟨_,rfl,(by show 2 ≤ sizeLine; decide),fun p hp=>q p _ (sAll.free hp) (sAll.trans (same_new hp)) (by rw [ev]; exact upd_same) (by rw [ev]; show 2 ≤ 100000; decide)⟩
def sp_Held_tell_spaced (g:Pg K mg):Sp:=fun vs H Q _=>∃ (hd:Addr) (h:Vafmta.Held),vs=[.ref hd]∧HAt g H hd h∧Tells H Q (Vafmta.told h .spaced)
theorem ok_Held_tell_spaced (g:Pg K mg):FnOk P w K mg base CX0 10 g.m_Held_tell_spaced.a g.m_Held_tell_spaced.fd ["self"] (sp_Held_tell_spaced g):=by
  refine g.m_Held_tell_spaced.F.ok sc_Held_tell_spaced (fun vs H Q E h=>?_) (fun cdv A outer s H vs Q E hr h=>?_)
  · obtain ⟨hd,h,rfl,_⟩:=h; rfl
  · obtain ⟨hd,h,rfl,⟨N,dx,x,bf,ho,ta,sl,as,fr,C⟩,q⟩:=h
    refine ⟨_,(pss_cons (ps_set (i:=1) sc_Held_tell_spaced.nd rfl (Or.inl rfl) (pe_fld (pe_call (ok_things_of g) (hr.mono (by decide)) rfl g.f_things_of.m g.f_things_of.F.kp g.f_things_of.b .nil pass0 (pa_cons (pe_fld (pv 0) rfl) pa_nil)) rfl))
      (pss_cons (ps_if (pt_cmpR op_gt (pe_callB call_len_seq (by rfl) g.n_len PySem.boot_len (pa_cons (pv 1) pa_nil)) (pe_gint rfl g.g_MOST_SPACED) (nomark _)) (pss_one (ps_ret (pe_lst (pa_cons (pe_gint rfl g.g_TOO_MANY) pa_nil)))) pss_nil)
      (pss_one (ps_ret (pe_call (ok_counted g) (hr.mono (by decide)) rfl g.f_counted.m g.f_counted.F.kp g.f_counted.b .nil pass0 (pa_cons (pe_call (ok_written_closely g) (hr.mono (by decide)) rfl g.f_written_closely.m g.f_written_closely.F.kp g.f_written_closely.b .nil pass0 (pa_cons (pe_lc rfl sc_Held_tell_spaced.nd (pi_list (pv 1)) (own:=[("token",2)]) (blk_by (N:=["self","tokens","token"]) (sc:=defScope s_Held_tell_spaced) rfl rfl (by decide +kernel)) (fun _ _ _ _ _=>pg_name (i:=2) sc_Held_tell_spaced.nd rfl (Or.inl rfl) (Or.inr rfl)) (fun _ _ _ _ _=>pts_nil) (fun _ _ _ _ _=>(pe_tup (pa_cons (pe_fldk (K:=K) rfl (pv 2) rfl) (pa_cons (pe_fldk (K:=K) rfl (pv 2) rfl) pa_nil))))) pa_nil)) pa_nil)))))),?_⟩
    refine ⟨_,rfl,rf_Held_now g ho ⟨N,x,ta,sl,as,h.text,h.stretches,fr,rfl,C,fun th tl wl ats aws H1 T0=>?_⟩⟩
    have T:=ThB.of C T0
    obtain ⟨dt,nt,bt,hth⟩:=T.obj
    refine rf_Things_tokens g hth ?_
    have hal:(ats.map V.ref).length=h.things.tokens.length:=by rw [List.length_map,T.toks.1]
    refine ⟨_,rfl,_,_,rfl,.inl (SqL.of T.ltl),_,_,rfl,rfl,_,rfl,ite2 (fun h1=>?_) (fun h1=>?_)⟩
    · have:=of_decide_eq_true h1
      rw [hal] at this
      refine ⟨(by show 1 ≤ sizeLine; decide),q.one T.base (-8) ?_⟩
      unfold Vafmta.told
      simp only
      rw [if_pos (show Vafmta.CLOSE < h.things.tokens.length by unfold Vafmta.CLOSE; omega)]
    have hcl:h.things.tokens.length ≤ 200:=by
      have:¬ (200:Int) < (ats.map V.ref).length:=fun z=>h1 (decide_eq_true z)
      rw [hal] at this
      omega
    obtain ⟨rs,hrl,hrs⟩:=ats_rows (S:=fun a r (k:Vafmta.Token)=>(∃ da ll bh,H1 a=some (.ins g.Token.C da (fToken (Vafmta.kindNo k.kind) (k.start:Int) r (Vafmta.truth k.gap) ll bh)))∧TextAt H1 r k.text) (fun a k ⟨da,r,ll,aa,bh,_,_,h1,h2,_⟩=>⟨r,⟨da,ll,bh,h1⟩,h2⟩) ats h.things.tokens T.toks
    have epc:h.things.tokens.map MC.pieceOf=Vafmta.tokenPieces h.pieces:=MC.things_pieces h.pieces
    refine ⟨_,rfl,tl,rfl,⟨_,SqL.of T.ltl⟩,fun D hD=>?_⟩
    refine lc_pairs (xs:=ats.map V.ref) (ps:=h.things.tokens.map MC.pieceOf) (by rw [List.length_map,List.length_map,T.toks.1]) (by rw [hal]; omega) hD (SqL.of T.ltl) (fun i v H2 hi s2 C1 c1=>?_) (fun H2 pa s2 hD2 hpa=>?_)
    · obtain ⟨a,ea,rfl⟩:=ref_get hi
      obtain ⟨k,ek,_⟩:=T.toks.get ea
      obtain ⟨r,er,⟨da,ll,bh,hka⟩,hkr⟩:=hrs i a k ea ek
      refine ⟨rfl,_,rfl,rf_Token_kind g (s2 _ _ hka) ⟨_,rfl,rf_Token_row g (s2 _ _ hka) ⟨(by show 2 ≤ sizeLine; decide),fun p hp=>?_⟩⟩⟩
      exact c1 p _ (MC.pieceOf k) r (by rw [List.getElem?_map,ek]; rfl) upd_same hkr (same_new hp)
    have hgen:∀ p ∈ h.pieces,MC.Gen p:=fun p hp=>C.good.gen p (by rw [← Cm.pieces_flat h]; exact hp)
    have hpt:∀ p ∈ h.things.tokens.map MC.pieceOf,MC.Gen p∧p.isToken=true∧p.text.length ≤ 20000:=fun p hp=>by
      have hp':=hp
      rw [epc] at hp'
      have:=List.mem_filter.mp hp'
      obtain ⟨t,ht,rfl⟩:=List.mem_map.mp hp
      exact ⟨hgen _ this.1,this.2,(T.kw t ht).2.1⟩
    have hsum:Cm.sumLen (h.things.tokens.map MC.pieceOf) ≤ 30000:=by
      rw [epc]
      have z:∀ l:List Vafmta.Piece,Cm.sumLen (Vafmta.tokenPieces l) ≤ (Vafmta.bytesOf l).length + (Vafmta.tokenPieces l).length:=by
        intro l
        induction l with
        | nil=>exact Nat.le_refl _
        | cons p l ih =>
          rw [MC.bytesOf_cons,List.length_append]
          unfold Vafmta.tokenPieces at ih ⊢
          rw [List.filter_cons]
          split
          · unfold Cm.sumLen at ih ⊢
            rw [List.map_cons,List.sum_cons,List.length_cons]
            omega
          · omega
      have z1:=z h.pieces
      have z2:(Vafmta.bytesOf h.pieces).length=h.text.length:=by rw [Cm.pieces_flat,C.good.bytes]
      have z3:(Vafmta.tokenPieces h.pieces).length ≤ 200:=by rw [← epc,List.length_map]; exact hcl
      have:=C.len
      omega
    refine ⟨D,pa,_,rfl,hD2,hpa,hpt,by rw [List.length_map]; exact hcl,hsum,fun p3 H3 s3 hp3=>⟨p3,_,rfl,hp3,?_,fun l4 H4 s4 nl4 hl4=>?_⟩⟩
    all_goals have esp:((h.things.tokens.map MC.pieceOf).foldl MC.W.put MC.W.start).text=Vafmta.spaced h.pieces:=by rw [MC.spaced_put h.pieces hgen,epc]
    all_goals have hfl:=(Cm.fold_len (h.things.tokens.map MC.pieceOf) MC.W.start).1
    all_goals have e0:MC.W.start.text.length=0:=rfl
    · rw [bV_len]
      omega
    · rw [esp] at hl4 hfl
      have e:ansV (Vafmta.told h .spaced) = .int ((bV (Vafmta.spaced h.pieces)).length:Int) :: bV (Vafmta.spaced h.pieces):=by
        unfold Vafmta.told
        simp only
        rw [if_neg (show ¬ Vafmta.CLOSE < h.things.tokens.length by unfold Vafmta.CLOSE; omega)]
        show V.int (Int.ofNat (Vafmta.spaced h.pieces).length) :: (Vafmta.numbers (Vafmta.spaced h.pieces)).map V.int=_
        rw [numbers_bV,bV_len]
        rfl
      exact q l4 H4 (((T.base.trans s2).trans s3).free nl4) ((T.base.trans s2).trans (s3.trans s4)) (by rw [e]; exact hl4) (by rw [e,List.length_cons,bV_len]; omega)
end
end Cb
end
section
set_option maxRecDepth 100000
set_option maxHeartbeats 4000000
namespace Cb
open PySem PySem.Spec PyProof.Rows L2
open Cm (bi)
structure TrC (N N':Addr->Prop) (H H':Hp):Prop where
  ins:∀ a C dx k v r,H a=some (.ins C dx ((k,v) :: r))->k ≠ ("now" : Str)->k ≠ ("numbers" : Str)->H' a=some (.ins C dx ((k,v) :: r))
  lst:∀ a xs,H a=some (.lst xs)->N a->H' a=some (.lst xs)∧N' a
theorem TrC.of {N N':Addr->Prop}{H H':Hp} (s:Same H H') (n:∀ a xs,H a=some (.lst xs)->N a->N' a):TrC N N' H H':=⟨fun _ _ _ _ _ _ h _ _=>s _ _ h,fun _ _ h z=>⟨s _ _ h,n _ _ h z⟩⟩
section
variable {P:Program}{w:World}{K:PySem.W.Frag}{mg:Str->Option Value}{base:Heap}
theorem PieceAt.trC {g:Pg K mg}{N N':Addr->Prop}{H H':Hp}{x:Addr}{p:Vafmta.Piece} (h:PieceAt g H x p) (t:TrC N N' H H'):PieceAt g H' x p:=by
  obtain ⟨dx,h⟩:=h
  exact ⟨dx,t.ins _ _ _ _ _ _ h (by decide +kernel) (by decide +kernel)⟩
theorem StretchAt.trC {g:Pg K mg}{N N':Addr->Prop}{H H':Hp}{x:Addr}{s:Vafmta.Stretch}{c:Bool} (h:StretchAt g N H x s c) (t:TrC N N' H H'):StretchAt g N' H' x s c:=by
  obtain ⟨dx,l,as,h0,h1,h2,h3⟩:=h
  exact ⟨dx,l,as,(t.lst _ _ h2 h0).2,t.ins _ _ _ _ _ _ h1 (by decide +kernel) (by decide +kernel),(t.lst _ _ h2 h0).1,h3.imp fun a p z=>z.trC t⟩
theorem CutAt.trC {g:Pg K mg}{N N':Addr->Prop}{H H':Hp}{x ta sl:Addr}{as:List Addr}{t:Vafmta.Bytes}{ss:List Vafmta.Stretch}{fr:Int} (h:CutAt g N H x ta sl as t ss fr) (z:TrC N N' H H'):CutAt g N' H' x ta sl as t ss fr:=by
  obtain ⟨⟨dx,h1⟩,h2,h3,h4,h5,h6,h7,h8⟩:=h
  exact ⟨⟨dx,z.ins _ _ _ _ _ _ h1 (by decide +kernel) (by decide +kernel)⟩,(z.lst _ _ h2 h5).1,(z.lst _ _ h3 h6).1,⟨h4.1,fun i a s e1 e2=>(h4.2 i a s e1 e2).trC z⟩,(z.lst _ _ h2 h5).2,(z.lst _ _ h3 h6).2,h7,h8⟩
theorem CutX.trC {g:Pg K mg}{N N':Addr->Prop}{H H':Hp}{x:Addr}{h:Vafmta.Held} (c:CutX g N H x h) (z:TrC N N' H H'):CutX g N' H' x h:=by
  obtain ⟨ta,sl,as,fr,C⟩:=c
  exact ⟨ta,sl,as,fr,C.trC z⟩
structure HeldAt (g:Pg K mg) (N:Addr->Prop) (H:Hp) (hd bf:Addr) (st:Vafmta.State):Prop where
  obj:∃ dx x bs,H hd=some (.ins g.Held.C dx (fHeld x bf))∧CutX g (fun a=>N a∧a ≠ bf) H x st.held∧H bf=some (.lst (bs.map V.ref))∧Ats (CutX g (fun a=>N a∧a ≠ bf) H) bs st.earlier.reverse
  nb:N bf
  few:st.earlier.length ≤ 16
theorem HeldAt.at_ {g:Pg K mg}{N:Addr->Prop}{H:Hp}{hd bf:Addr}{st:Vafmta.State} (h:HeldAt g N H hd bf st):HAt g H hd st.held:=by
  obtain ⟨dx,x,bs,h1,h2,_⟩:=h.obj
  exact ⟨_,dx,x,bf,h1,h2⟩
theorem HeldAt.keep {g:Pg K mg}{N:Addr->Prop}{H H':Hp}{hd bf:Addr}{st:Vafmta.State} (h:HeldAt g N H hd bf st) (k:∀ b o,H b=some o->(∀ C dx v r,o ≠ .ins C dx (("numbers",v) :: r))->(∀ xs,o = .lst xs->N b)->H' b=some o):HeldAt g N H' hd bf st:=by
  obtain ⟨dx,x,bs,h1,h2,h3,h4⟩:=h.obj
  have z:TrC (fun a=>N a∧a ≠ bf) (fun a=>N a∧a ≠ bf) H H':=⟨fun a C d k' v r e1 e2 e3=>k a _ e1 (fun C' d' v' r' q=>e3 (by injection q with q1 q2 q3; injection q3 with q4 q5; injection q4 with q6 q7)) (fun xs q=>by cases q),fun a xs e1 n=>⟨k a _ e1 (fun _ _ _ _ q=>by cases q) (fun _ _=>n.1),n⟩⟩
  refine ⟨⟨dx,x,bs,k hd _ h1 (fun C' d' v' r' q=>?_) (fun xs q=>by cases q),h2.trC z,k bf _ h3 (fun _ _ _ _ q=>by cases q) (fun _ _=>h.nb),h4.imp fun a y c=>c.trC z⟩,h.nb,h.few⟩
  injection q with q1 q2 q3
  injection q3 with q4 q5
  injection q4 with q6 q7
  exact absurd q6 (by decide +kernel)
theorem HeldAt.same {g:Pg K mg}{N:Addr->Prop}{H H':Hp}{hd bf:Addr}{st:Vafmta.State} (h:HeldAt g N H hd bf st) (s:Same H H'):HeldAt g N H' hd bf st:=h.keep fun b o e _ _=>s b o e
def Changes (g:Pg K mg) (N:Addr->Prop) (H:Hp) (hd bf:Addr) (Q:VK) (res:Vafmta.State × Vafmta.Answer):Prop:=∀ l bf' H',(∀ o,H l=some o->l=hd ∨ l=bf)->(∀ b o,H b=some o->b ≠ hd->b ≠ bf->H' b=some o)->HeldAt g N H' hd bf' res.1->H' l=some (.lst (ansV res.2))->(ansV res.2).length ≤ 100000->Q (.ref l) H'
theorem new2 {H H':Hp}{hd bf l:Addr} (k:∀ b o,H b=some o->b ≠ hd->b ≠ bf->H' b=some o) (h:H' l=none):∀ o,H l=some o->l=hd ∨ l=bf:=fun o e=>by
  by_cases h1:l=hd
  · exact .inl h1
  by_cases h2:l=bf
  · exact .inr h2
  have:=k l o e h1 h2
  rw [h] at this
  cases this
theorem Changes.no {g:Pg K mg}{N:Addr->Prop}{H H':Hp}{hd bf:Addr}{st:Vafmta.State}{Q:VK}{res:Vafmta.State × Vafmta.Answer} (q:Changes g N H hd bf Q res) (T:HeldAt g N H hd bf st) (s:Same H H') (n:Int) (e:res=(st,Vafmta.refusal n)):∀ p,H' p=none->Q (.ref p) (upd H' p (.lst [.int n])):=fun p hp=>by
  subst e
  exact q p bf _ (new2 (fun b o h _ _=>s b o h) hp) (fun b o h _ _=>same_new hp _ _ (s b o h)) (T.same (s.trans (same_new hp))) upd_same (by show 1 ≤ 100000; decide)
def sp_Held_load (g:Pg K mg):Sp:=fun vs H Q _=>∃ (N:Addr->Prop) (hd bf:Addr) (st:Vafmta.State) (ra:Addr) (r:Vafmta.Bytes),vs=[.ref hd,.ref ra]∧(∀ b,H b=none->N b)∧HeldAt g N H hd bf st∧TextAt H ra r∧N ra∧Changes g N H hd bf Q (Vafmta.step st (.load r))
theorem ok_Held_load (g:Pg K mg):FnOk P w K mg base CX0 10 g.m_Held_load.a g.m_Held_load.fd ["self","row"] (sp_Held_load g):=by
  refine g.m_Held_load.F.ok sc_Held_load (fun vs H Q E h=>?_) (fun cdv A outer s H vs Q E hr h=>?_)
  · obtain ⟨N,hd,bf,st,ra,r,rfl,_⟩:=h; rfl
  · obtain ⟨N,hd,bf,st,ra,r,rfl,hN,T,hra,nra,q⟩:=h
    refine ⟨_,(pss_cons (ps_if (pt_cmpR op_gt (pe_callB call_len_seq (by rfl) g.n_len PySem.boot_len (pa_cons (pv 1) pa_nil)) (pe_gint rfl g.g_MOST_BYTES) (nomark _)) (pss_one (ps_ret (pe_lst (pa_cons (pe_gint rfl g.g_TOO_LONG) pa_nil)))) pss_nil)
      (pss_cons (ps_fld (pv 0) (pe_call (ok_cut_whole g) (hr.mono (by decide)) rfl g.f_cut_whole.m g.f_cut_whole.F.kp g.f_cut_whole.b .nil pass0 (pa_cons (pv 1) pa_nil)) rfl)
      (pss_cons (ps_fld (pv 0) (pe_lst pa_nil) rfl)
      (pss_one (ps_ret (pe_lst (pa_cons (pe_callB call_len_seq (by rfl) g.n_len PySem.boot_len (pa_cons (pe_fld (pe_fld (pv 0) rfl) rfl) pa_nil)) (pa_cons (pe_call (ok_token_count g) (hr.mono (by decide)) rfl g.f_token_count.m g.f_token_count.F.kp g.f_token_count.b .nil pass0 (pa_cons (pe_fld (pe_fld (pv 0) rfl) rfl) pa_nil)) pa_nil)))))))),?_⟩
    refine ⟨_,rfl,_,_,rfl,.inl (SqL.of hra),_,_,rfl,rfl,_,rfl,ite2 (fun h1=>?_) (fun h1=>?_)⟩
    · have:=of_decide_eq_true h1
      rw [bV_len] at this
      refine ⟨(by show 1 ≤ sizeLine; decide),q.no T (.refl H) (-1) ?_⟩
      unfold Vafmta.step
      simp only
      rw [if_pos (show Vafmta.MOST < r.length by unfold Vafmta.MOST; omega)]
    have hrl:r.length ≤ 4000:=by
      have:¬ (4000:Int) < (bV r).length:=fun z=>h1 (decide_eq_true z)
      rw [bV_len] at this
      omega
    obtain ⟨dx,x0,bs,ho,_,hbf,_⟩:=T.obj
    refine ⟨_,rfl,N,ra,r,rfl,hN,hra,nra,by omega,fun x sl as H1 s1 nx C1=>?_⟩
    have ho1:=s1 _ _ ho
    refine ⟨_,rfl,rs_Held_now g ho1 ?_⟩
    refine ⟨by decide,fun p hp=>?_⟩
    have p_hd:p ≠ hd:=fun e=>by rw [e,upd_same] at hp; cases hp
    rw [upd_ne p_hd] at hp
    refine ⟨_,rfl,rs_Held_before g (by rw [upd_ne (Ne.symm p_hd)]; exact upd_same) ?_⟩
    generalize e4:upd (upd (upd H1 hd (.ins g.Held.C dx (fHeld x bf))) p (.lst [])) hd (.ins g.Held.C dx (fHeld x p))=H4
    have k4:∀ b o,H1 b=some o->b ≠ hd->H4 b=some o:=fun b o hb hne=>by rw [← e4,upd_ne hne,upd_ne (ne_of_none hb hp),upd_ne hne]; exact hb
    have ho4:H4 hd=some (.ins g.Held.C dx (fHeld x p)):=by rw [← e4]; exact upd_same
    have hp4:H4 p=some (.lst []):=by rw [← e4,upd_ne p_hd]; exact upd_same
    have z:TrC N (fun a=>N a∧a ≠ p) H1 H4:=⟨fun a C d k v r e1 e2 _=>k4 a _ e1 (fun e=>by
      rw [e,ho1] at e1
      have:=Option.some.inj e1
      injection this with q1 q2 q3
      injection q3 with q4 q5
      injection q4 with q6 q7
      exact e2 q6.symm),fun a xs e1 n=>⟨k4 a _ e1 (Ne.symm (ins_lst ho1 e1)),n,ne_of_none e1 hp⟩⟩
    have C4:=C1.trC z
    obtain ⟨dc,hc4⟩:=C4.obj
    refine ⟨_,rfl,rf_Held_now g ho4 (rf_Cut_stretches g hc4 ⟨_,_,rfl,.inl (SqL.of C4.lst),_,rfl,rf_Held_now g ho4 (rf_Cut_stretches g hc4 ⟨sl,Vafmta.stretchesOf r,rfl,C4.stsX,C4.few,fun H5 s5=>⟨(by show 2 ≤ sizeLine; decide),fun l hl=>?_⟩⟩)⟩)⟩
    have s6:=s5.trans (same_new (o:=.lst [.int ((as.map V.ref).length:Int),.int (Vafmta.tokensIn (Vafmta.stretchesOf r):Int)]) hl)
    have est:Vafmta.step st (.load r)=(⟨Vafmta.loaded r,[]⟩,Vafmta.loadedAnswer (Vafmta.loaded r)):=by
      unfold Vafmta.step
      simp only
      rw [if_neg (show ¬ Vafmta.MOST < r.length by unfold Vafmta.MOST; omega)]
    rw [est] at q
    have ea:ansV (Vafmta.loadedAnswer (Vafmta.loaded r))=[.int ((as.map V.ref).length:Int),.int (Vafmta.tokensIn (Vafmta.stretchesOf r):Int)]:=by
      show [V.int (Int.ofNat (Vafmta.stretchesOf r).length),V.int (Int.ofNat (Vafmta.loaded r).things.tokens.length)]=_
      rw [List.length_map,C1.sts.1,Cm.tokensIn_flat]
      have:(Vafmta.loaded r).things.tokens.length=(Vafmta.tokenPieces (Vafmta.stretchesOf r).flatten).length:=by
        have:=MC.things_length (Vafmta.loaded r).pieces
        rw [Cm.pieces_flat] at this
        unfold Vafmta.Held.things
        rw [Cm.pieces_flat]
        exact this
      rw [this]
      rfl
    refine q l p _ (new2 (fun b o hb n1 _=>s5 _ _ (k4 b o (s1 b o hb) n1)) hl) (fun b o hb n1 _=>s6 _ _ (k4 b o (s1 b o hb) n1)) ⟨⟨dx,x,[],s6 _ _ ho4,⟨ra,sl,as,_,C4.same s6⟩,s6 _ _ hp4,.nil⟩,hN p (s1.free hp),Nat.zero_le _⟩ (by rw [ea]; exact upd_same) (by rw [ea]; show 2 ≤ 100000; decide)
def sp_Held_undo (g:Pg K mg):Sp:=fun vs H Q _=>∃ (N:Addr->Prop) (hd bf:Addr) (st:Vafmta.State),vs=[.ref hd]∧HeldAt g N H hd bf st∧Changes g N H hd bf Q (Vafmta.step st .undo)
theorem ok_Held_undo (g:Pg K mg):FnOk P w K mg base CX0 1 g.m_Held_undo.a g.m_Held_undo.fd ["self"] (sp_Held_undo g):=by
  refine g.m_Held_undo.F.ok sc_Held_undo (fun vs H Q E h=>?_) (fun cdv A outer s H vs Q E hr h=>?_)
  · obtain ⟨N,hd,bf,st,rfl,_⟩:=h; rfl
  · obtain ⟨N,hd,bf,st,rfl,T,q⟩:=h
    refine ⟨_,(pss_cons (ps_if (pt_not (pt_truth (pe_fld (pv 0) rfl) (fun _=>rfl))) (pss_one (ps_ret (pe_lst (pa_cons (pe_gint rfl g.g_NO_EDIT) pa_nil)))) pss_nil)
      (pss_cons (ps_fld (pv 0) (pe_bm0 PySem.F.plainAttrs_list PySem.F.slot_list_pop PySem.F.type_list_pop mt_pop (pe_fld (pv 0) rfl)) rfl)
      (pss_one (ps_ret (pe_lst (pa_cons (pe_callB call_len_seq (by rfl) g.n_len PySem.boot_len (pa_cons (pe_fld (pv 0) rfl) pa_nil)) pa_nil)))))),?_⟩
    obtain ⟨dx,x,bs,ho,hx,hbf,hbs⟩:=T.obj
    refine ⟨_,rfl,rf_Held_before g ho ⟨!(bs.map V.ref).isEmpty,.inl ⟨_,SqL.of hbf,rfl⟩,?_⟩⟩
    cases he:st.earlier with
    | nil =>
      have hb0:bs=[]:=List.length_eq_zero_iff.mp (by rw [hbs.1,he]; rfl)
      subst hb0
      refine iteT ⟨(by show 1 ≤ sizeLine; decide),q.no T (.refl H) (-9) ?_⟩
      unfold Vafmta.step
      simp only
      rw [he]
    | cons h r =>
      rw [he,List.reverse_cons] at hbs
      obtain ⟨b0,y,eb⟩:∃ b0 y,bs=b0 ++ [y]:=by
        have hne:bs ≠ []:=fun e=>by have:=hbs.1; rw [e] at this; simp at this
        exact ⟨_,_,(List.dropLast_concat_getLast hne).symm⟩
      subst eb
      have hl0:b0.length=r.reverse.length:=by have:=hbs.1; simp at this; simp; exact this
      have hy:CutX g (fun a=>N a∧a ≠ bf) H y h:=hbs.2 b0.length y h (by simp) (by rw [hl0]; simp)
      have hb0:Ats (CutX g (fun a=>N a∧a ≠ bf) H) b0 r.reverse:=⟨hl0,fun i a k e1 e2=>by
        have hi:=(List.getElem?_eq_some_iff.mp e1).1
        exact hbs.2 i a k (by rw [List.getElem?_append_left hi]; exact e1) (by rw [List.getElem?_append_left (by rw [← hl0]; exact hi)]; exact e2)⟩
      have en:(!(!((b0 ++ [y]).map V.ref).isEmpty))=false:=by rw [List.map_append]; simp
      rw [en]
      refine iteF ?_
      have elast:((b0 ++ [y]).map V.ref)[((b0 ++ [y]).map V.ref).length - 1]?=some (V.ref y):=by rw [List.map_append]; simp
      have edrop:((b0 ++ [y]).map V.ref).dropLast=b0.map V.ref:=by rw [List.map_append]; simp
      refine ⟨_,rfl,rf_Held_before g ho ⟨.inl ⟨rfl,_,SqL.of hbf⟩,bf,_,V.ref y,rfl,rfl,hbf,elast,?_⟩⟩
      rw [edrop]
      have hd_bf:hd ≠ bf:=ins_lst ho hbf
      refine ⟨_,rfl,rs_Held_now g (by rw [upd_ne hd_bf]; exact ho) ?_⟩
      generalize e2:upd (upd H bf (.lst (b0.map V.ref))) hd (.ins g.Held.C dx (fHeld y bf))=H2
      have k2:∀ b o,H b=some o->b ≠ hd->b ≠ bf->H2 b=some o:=fun b o hb n1 n2=>by rw [← e2,upd_ne n1,upd_ne n2]; exact hb
      have ho2:H2 hd=some (.ins g.Held.C dx (fHeld y bf)):=by rw [← e2]; exact upd_same
      have hbf2:H2 bf=some (.lst (b0.map V.ref)):=by rw [← e2,upd_ne (Ne.symm hd_bf)]; exact upd_same
      have z:TrC (fun a=>N a∧a ≠ bf) (fun a=>N a∧a ≠ bf) H H2:=⟨fun a C d k v r e1 e2 _=>k2 a _ e1 (fun e=>by
        rw [e,ho] at e1
        have:=Option.some.inj e1
        injection this with q1 q2 q3
        injection q3 with q4 q5
        injection q4 with q6 q7
        exact e2 q6.symm) (ins_lst e1 hbf),fun a xs e1 n=>⟨k2 a _ e1 (Ne.symm (ins_lst ho e1)) n.2,n⟩⟩
      refine ⟨_,rfl,rf_Held_before g ho2 ⟨_,_,rfl,.inl (SqL.of hbf2),(by show 1 ≤ sizeLine; decide),fun l hl=>?_⟩⟩
      have s3:Same H2 (upd H2 l (.lst [.int ((b0.map V.ref).length:Int)])):=same_new hl
      have est:Vafmta.step st .undo=(⟨h,r⟩,{ num:=Int.ofNat r.length }):=by
        unfold Vafmta.step
        simp only
        rw [he]
      rw [est] at q
      have ea:ansV { num:=Int.ofNat r.length }=[.int ((b0.map V.ref).length:Int)]:=by
        show [V.int (Int.ofNat r.length)]=_
        rw [List.length_map,hl0,List.length_reverse]
        rfl
      have hf:=T.few
      rw [he,List.length_cons] at hf
      have zs:TrC (fun a=>N a∧a ≠ bf) (fun a=>N a∧a ≠ bf) H2 (upd H2 l (.lst [.int ((b0.map V.ref).length:Int)])):=.of s3 fun _ _ _ n=>n
      refine q l bf _ (new2 k2 hl) (fun b o hb n1 n2=>s3 _ _ (k2 b o hb n1 n2)) ⟨⟨dx,y,b0,s3 _ _ ho2,(hy.trC z).trC zs,s3 _ _ hbf2,hb0.imp fun a k c=>(c.trC z).trC zs⟩,T.nb,by show r.length ≤ 16; omega⟩ (by rw [ea]; exact upd_same) (by rw [ea]; show 1 ≤ 100000; decide)
def sp_Held_edit (g:Pg K mg):Sp:=fun vs H Q _=>∃ (N:Addr->Prop) (hd bf:Addr) (st:Vafmta.State) (a b:Int) (ra:Addr) (r:Vafmta.Bytes),vs=[.ref hd,.int a,.int b,.ref ra]∧(∀ b,H b=none->N b)∧HeldAt g N H hd bf st∧TextAt H ra r∧r.length ≤ 8000∧Changes g N H hd bf Q (Vafmta.step st (.edit a b r))
theorem ok_Held_edit (g:Pg K mg):FnOk P w K mg base CX0 10 g.m_Held_edit.a g.m_Held_edit.fd ["self","a","b","row"] (sp_Held_edit g):=by
  refine g.m_Held_edit.F.ok sc_Held_edit (fun vs H Q E h=>?_) (fun cdv A outer s H vs Q E hr h=>?_)
  · obtain ⟨N,hd,bf,st,a,b,ra,r,rfl,_⟩:=h; rfl
  · obtain ⟨N,hd,bf,st,a,b,ra,r,rfl,hN,T,hra,hrl,q⟩:=h
    refine ⟨_,(pss_cons (ps_set (i:=4) sc_Held_edit.nd rfl (Or.inl rfl) (pe_callB call_len_seq (by rfl) g.n_len PySem.boot_len (pa_cons (pe_fld (pe_fld (pv 0) rfl) rfl) pa_nil)))
      (pss_cons (ps_if (PW.pt (pw_or (pt_cmpR op_lt (pv 1) pe_int (nomark _)) (pw_or (pt_cmpR op_lt (pv 2) (pv 1) (nomark _)) (pw_or1 (pt_cmpR op_gt (pv 2) (pv 4) (nomark _)))))) (pss_one (ps_ret (pe_lst (pa_cons (pe_gint rfl g.g_NO_PLACE) pa_nil)))) pss_nil)
      (pss_cons (ps_if (pt_cmpR op_gt (pe_op op_add (pe_op op_sub (pv 4) (pe_op op_sub (pv 2) (pv 1))) (pe_callB call_len_seq (by rfl) g.n_len PySem.boot_len (pa_cons (pv 3) pa_nil))) (pe_gint rfl g.g_MOST_BYTES) (nomark _)) (pss_one (ps_ret (pe_lst (pa_cons (pe_gint rfl g.g_TOO_LONG) pa_nil)))) pss_nil)
      (pss_cons (ps_fld (pv 0) (pe_slice sl_list (pe_op op_cat (pe_fld (pv 0) rfl) (pe_lst (pa_cons (pe_fld (pv 0) rfl) pa_nil))) (po_some (pe_un un_neg (pe_gint rfl g.g_MOST_EDITS))) po_none) rfl)
      (pss_cons (ps_fld (pv 0) (pe_call (ok_cut_anew g) (hr.mono (by decide)) rfl g.f_cut_anew.m g.f_cut_anew.F.kp g.f_cut_anew.b .nil pass0 (pa_cons (pe_fld (pv 0) rfl) (pa_cons (pv 1) (pa_cons (pv 2) (pa_cons (pv 3) pa_nil))))) rfl)
      (pss_one (ps_ret (pe_lst (pa_cons (pe_callB call_len_seq (by rfl) g.n_len PySem.boot_len (pa_cons (pe_fld (pe_fld (pv 0) rfl) rfl) pa_nil)) (pa_cons (pe_fld (pe_fld (pv 0) rfl) rfl) pa_nil)))))))))),?_⟩
    obtain ⟨dx,x,bs,ho,⟨ta,sl,as,fr,C⟩,hbf,hbs⟩:=T.obj
    obtain ⟨dc,hc⟩:=C.obj
    refine ⟨_,rfl,rf_Held_now g ho (rf_Cut_text g hc ⟨_,_,rfl,.inl (SqL.of C.txt),?_⟩)⟩
    have no2:(a < 0 ∨ b < a ∨ (st.held.text.length:Int) < b)->∀ p,H p=none->Q (.ref p) (upd H p (.lst [.int (-2)])):=fun z=>q.no T (.refl H) (-2) (by unfold Vafmta.step; simp only; rw [if_pos z])
    refine ⟨_,rfl,_,_,rfl,rfl,_,rfl,ite2 (fun h1=>?_) (fun h1=>?_)⟩
    · exact ⟨(by show 1 ≤ sizeLine; decide),no2 (.inl (of_decide_eq_true h1))⟩
    have n1:¬ a < 0:=fun z=>h1 (decide_eq_true z)
    refine ⟨_,rfl,_,rfl,_,_,rfl,rfl,_,rfl,ite2 (fun h2=>?_) (fun h2=>?_)⟩
    · exact ⟨(by show 1 ≤ sizeLine; decide),no2 (.inr (.inl (of_decide_eq_true h2)))⟩
    have n2:¬ b < a:=fun z=>h2 (decide_eq_true z)
    refine ⟨_,rfl,_,rfl,_,_,rfl,rfl,_,rfl,ite2 (fun h3=>?_) (fun h3=>?_)⟩
    · exact ⟨(by show 1 ≤ sizeLine; decide),no2 (.inr (.inr (by have:=of_decide_eq_true h3; rw [bV_len] at this; exact this)))⟩
    have n3:¬ (st.held.text.length:Int) < b:=fun z=>h3 (decide_eq_true (by rw [bV_len]; exact z))
    obtain ⟨a',rfl⟩:∃ a':Nat,a=(a':Int):=⟨a.toNat,by omega⟩
    obtain ⟨b',rfl⟩:∃ b':Nat,b=(b':Int):=⟨b.toNat,by omega⟩
    have hel:=MC.edited_len (t:=st.held.text) (new:=r) (a:=a') (b:=b') (by omega) (by omega)
    refine ⟨_,rfl,_,rfl,_,rfl,_,_,rfl,rfl,_,_,rfl,rfl,_,rfl,_,_,rfl,.inl (SqL.of hra),_,_,rfl,rfl,_,_,rfl,rfl,_,rfl,ite2 (fun h4=>?_) (fun h4=>?_)⟩
    · have h4':(4000:Int) < ((bV st.held.text).length:Int) - ((b':Int) - (a':Int)) + ((bV r).length:Int):=of_decide_eq_true h4
      rw [bV_len,bV_len] at h4'
      refine ⟨(by show 1 ≤ sizeLine; decide),q.no T (.refl H) (-1) ?_⟩
      unfold Vafmta.step
      simp only
      rw [if_neg (by omega),if_pos (show Vafmta.MOST < (Vafmta.edited st.held.text (a':Int).toNat (b':Int).toNat r).length by unfold Vafmta.MOST; rw [Int.toNat_natCast,Int.toNat_natCast]; omega)]
    have h4':¬ (4000:Int) < ((bV st.held.text).length:Int) - ((b':Int) - (a':Int)) + ((bV r).length:Int):=fun z=>h4 (decide_eq_true z)
    rw [bV_len,bV_len] at h4'
    have est:Vafmta.step st (.edit (a':Int) (b':Int) r)=(⟨⟨Vafmta.edited st.held.text a' b' r,(Vafmta.recut st.held.text st.held.stretches a' b' r).1⟩,(st.held :: st.earlier).take Vafmta.PAST⟩,{ num:=Int.ofNat (Vafmta.recut st.held.text st.held.stretches a' b' r).1.length,rest:=[Int.ofNat (Vafmta.recut st.held.text st.held.stretches a' b' r).2] }):=by
      unfold Vafmta.step
      simp only
      rw [if_neg (by omega),if_neg (show ¬ Vafmta.MOST < (Vafmta.edited st.held.text (a':Int).toNat (b':Int).toNat r).length by unfold Vafmta.MOST; rw [Int.toNat_natCast,Int.toNat_natCast]; omega)]
      simp only [Int.toNat_natCast]
    rw [est] at q
    have hbl:bs.length ≤ 16:=by rw [hbs.1,List.length_reverse]; exact T.few
    refine ⟨_,rfl,rf_Held_before g ho ⟨_,rfl,rf_Held_now g ho ⟨(by show 1 ≤ sizeLine; decide),fun p1 hp1=>?_⟩⟩⟩
    have s1:Same H (upd H p1 (.lst [.ref x])):=same_new hp1
    refine ⟨bf,p1,_,_,rfl,rfl,s1 _ _ hbf,upd_same,lim (k:=100) (by rw [List.length_map]; simp; omega),fun p2 hp2=>?_⟩
    generalize e2:upd (upd H p1 (.lst [.ref x])) p2 (.lst (bs.map V.ref ++ [.ref x]))=H2
    have s2:Same H H2:=by rw [← e2]; exact s1.trans (same_new hp2)
    have h2:H2 p2=some (.lst ((bs ++ [x]).map V.ref)):=by rw [← e2,upd_same,List.map_append]; rfl
    refine ⟨_,rfl,_,rfl,p2,_,rfl,SqL.of h2,fun p3 hp3=>?_⟩
    have ecut:cutV ((bs ++ [x]).map V.ref) (some (-16)) none=((bs ++ [x]).drop (bs.length + 1 - 16)).map V.ref:=by
      unfold cutV HT.sIx
      simp only
      rw [if_pos (by decide),List.length_map,List.length_append,List.length_singleton,show ((-16:Int) + ((bs.length + 1:Nat):Int)).toNat=bs.length + 1 - 16 by omega,List.take_of_length_le (by rw [List.length_drop,List.length_map,List.length_append]; simp),List.map_drop]
    have ecut':cutV ((bs ++ [x]).map V.ref) (some (-(16:Int))) none=((bs ++ [x]).drop (bs.length + 1 - 16)).map V.ref:=ecut
    rw [ecut']
    generalize e3:upd H2 p3 (.lst (((bs ++ [x]).drop (bs.length + 1 - 16)).map V.ref))=H3
    have s3:Same H2 H3:=by rw [← e3]; exact same_new hp3
    have h3:H3 p3=some (.lst (((bs ++ [x]).drop (bs.length + 1 - 16)).map V.ref)):=by rw [← e3]; exact upd_same
    have s03:=s2.trans s3
    have np3:H p3=none:=s2.free hp3
    have ho3:=s03 _ _ ho
    refine ⟨_,rfl,rs_Held_before g ho3 ?_⟩
    generalize e4:upd H3 hd (.ins g.Held.C dx (fHeld x p3))=H4
    have k4:∀ b o,H3 b=some o->b ≠ hd->H4 b=some o:=fun b o hb hne=>by rw [← e4,upd_ne hne]; exact hb
    have ho4:H4 hd=some (.ins g.Held.C dx (fHeld x p3)):=by rw [← e4]; exact upd_same
    have h34:=k4 _ _ h3 (Ne.symm (ins_lst ho3 h3))
    have now_ne:∀ {a C d k v r},H a=some (.ins C d ((k,v) :: r))->k ≠ ("now" : Str)->a ≠ hd:=fun {a C d k v r} e1 e2 e=>by
      rw [e,ho] at e1
      have:=Option.some.inj e1
      injection this with q1 q2 q3
      injection q3 with q4 q5
      injection q4 with q6 q7
      exact e2 q6.symm
    have z4:TrC (fun a=>N a∧a ≠ bf) (fun a=>N a∧a ≠ p3) H H4:=⟨fun a C d k v r e1 e2 _=>k4 a _ (s03 _ _ e1) (now_ne e1 e2),fun a xs e1 n=>⟨k4 a _ (s03 _ _ e1) (Ne.symm (ins_lst ho e1)),n.1,ne_of_none e1 np3⟩⟩
    have C4:=C.trC z4
    have hra4:TextAt H4 ra r:=k4 _ _ (s03 _ _ hra) (Ne.symm (ins_lst ho hra))
    have hN4:∀ b,H4 b=none->N b∧b ≠ p3:=fun b hb=>by
      refine ⟨hN b ?_,fun e=>by rw [e,h34] at hb; cases hb⟩
      cases eb:H b with
      | none=>rfl
      | some o =>
        by_cases ebh:b=hd
        · rw [ebh,ho4] at hb; cases hb
        · rw [k4 _ _ (s03 _ _ eb) ebh] at hb; cases hb
    refine ⟨_,rfl,rf_Held_now g ho4 ⟨_,rfl,_,rfl,_,rfl,fun a=>N a∧a ≠ p3,x,ta,sl,as,st.held.text,st.held.stretches,fr,a',b',ra,r,rfl,hN4,C4,hra4,by omega,by omega,by omega,fun x' ta' sl' as' H5 s5 nx' C5=>?_⟩⟩
    have ho5:=s5 _ _ ho4
    refine ⟨_,rfl,rs_Held_now g ho5 ?_⟩
    generalize e6:upd H5 hd (.ins g.Held.C dx (fHeld x' p3))=H6
    have k6:∀ b o,H5 b=some o->b ≠ hd->H6 b=some o:=fun b o hb hne=>by rw [← e6,upd_ne hne]; exact hb
    have ho6:H6 hd=some (.ins g.Held.C dx (fHeld x' p3)):=by rw [← e6]; exact upd_same
    have z6:TrC (fun a=>N a∧a ≠ p3) (fun a=>N a∧a ≠ p3) H5 H6:=⟨fun a C d k v r e1 e2 _=>k6 a _ e1 (fun e=>by
      rw [e,ho5] at e1
      have:=Option.some.inj e1
      injection this with q1 q2 q3
      injection q3 with q4 q5
      injection q4 with q6 q7
      exact e2 q6.symm),fun a xs e1 n=>⟨k6 a _ e1 (Ne.symm (ins_lst ho5 e1)),n⟩⟩
    have C6:=C5.trC z6
    obtain ⟨dc6,hc6⟩:=C6.obj
    refine ⟨_,rfl,rf_Held_now g ho6 (rf_Cut_stretches g hc6 ⟨_,_,rfl,.inl (SqL.of C6.lst),_,rfl,rf_Held_now g ho6 (rf_Cut_fresh g hc6 ⟨(by show 2 ≤ sizeLine; decide),fun l hl=>?_⟩)⟩)⟩
    have s7:Same H6 (upd H6 l (.lst [.int ((as'.map V.ref).length:Int),.int ((Vafmta.recut st.held.text st.held.stretches a' b' r).2:Int)])):=same_new hl
    have ea:ansV { num:=Int.ofNat (Vafmta.recut st.held.text st.held.stretches a' b' r).1.length,rest:=[Int.ofNat (Vafmta.recut st.held.text st.held.stretches a' b' r).2] }=[.int ((as'.map V.ref).length:Int),.int ((Vafmta.recut st.held.text st.held.stretches a' b' r).2:Int)]:=by
      rw [List.length_map,C5.sts.1]
      rfl
    have z7:TrC (fun a=>N a∧a ≠ p3) (fun a=>N a∧a ≠ p3) H6 _:=.of s7 fun _ _ _ n=>n
    have z57:TrC (fun a=>N a∧a ≠ p3) (fun a=>N a∧a ≠ p3) H4 H5:=.of s5 fun _ _ _ n=>n
    refine q l p3 _ (new2 (fun b o hb m1 m2=>k6 _ _ (s5 _ _ (k4 _ _ (s03 b o hb) m1)) m1) hl) (fun b o hb m1 m2=>s7 _ _ (k6 _ _ (s5 _ _ (k4 _ _ (s03 b o hb) m1)) m1)) ⟨⟨dx,x',(bs ++ [x]).drop (bs.length + 1 - 16),s7 _ _ ho6,⟨ta',sl',as',_,C6.trC z7⟩,?_,?_⟩,hN p3 np3,?_⟩ (by rw [ea]; exact upd_same) (by rw [ea]; show 2 ≤ 100000; decide)
    · exact s7 _ _ (k6 _ _ (s5 _ _ h34) (Ne.symm (ins_lst ho5 (s5 _ _ h34))))
    · have hall:Ats (CutX g (fun a=>N a∧a ≠ bf) H) (bs ++ [x]) (st.held :: st.earlier).reverse:=by
        rw [List.reverse_cons]
        exact hbs.snoc ⟨ta,sl,as,fr,C⟩
      show Ats _ _ ((st.held :: st.earlier).take Vafmta.PAST).reverse
      rw [Cm.take_rev_drop,List.length_cons]
      have el:bs.length=st.earlier.length:=by rw [hbs.1,List.length_reverse]
      rw [show st.earlier.length + 1 - Vafmta.PAST=bs.length + 1 - 16 by rw [el]; rfl]
      exact (hall.drop _).imp fun a k c=>(((c.trC z4).trC z57).trC z6).trC z7
    · show ((st.held :: st.earlier).take Vafmta.PAST).length ≤ 16
      rw [List.length_take]
      exact Nat.min_le_left _ _
end
end Cb
end
section
set_option maxRecDepth 100000
set_option maxHeartbeats 4000000
namespace Cb
open PySem PySem.Spec PyProof.Rows L2
open Cm (bi)
def ArgL (K:PySem.W.Frag) (H:Hp) (a:Addr) (xs:List V):Prop:=(∃ o,H a=some (.frz o (.lst xs))) ∨
  ∃ (o:Obj) (its:Array Value) (n:Nat),K.lookup a=some o∧o.cls = .type "list" ∧ o.dict=none∧o.data = .seq its n∧its.size ≤ sizeLine∧Vals xs its.toList
theorem ArgL.seq {K:PySem.W.Frag}{H:Hp}{a:Addr}{xs:List V} (h:ArgL K H a xs):SqL K H a xs:=by
  rcases h with h | h
  · exact .inl (.inr h)
  · exact .inr h
theorem ArgL.keep {K:PySem.W.Frag}{H H':Hp}{a:Addr}{xs:List V} (h:ArgL K H a xs) (k:∀ b o u,H b=some (.frz o u)->H' b=some (.frz o u)):ArgL K H' a xs:=by
  rcases h with ⟨o,h⟩ | h
  · exact .inl ⟨o,k _ _ _ h⟩
  · exact .inr h
theorem frz_ins {H:Hp}{a b C dx:Addr}{o:Obj}{u:HO}{fs:List (Str × V)} (h:H a=some (.frz o u)) (h':H b=some (.ins C dx fs)):a ≠ b:=ne_of h h' fun e=>by cases e
theorem frz_lst {H:Hp}{a b:Addr}{o:Obj}{u:HO}{xs:List V} (h:H a=some (.frz o u)) (h':H b=some (.lst xs)):a ≠ b:=ne_of h h' fun e=>by cases e
section
variable {P:Program}{w:World}{K:PySem.W.Frag}{mg:Str->Option Value}{base:Heap}
def sp_Calls_init (g:Pg K mg):Sp:=fun vs H Q _=>∃ (p dx na:Addr),vs=[.ref p,.ref na]∧H p=some (.ins g.Calls.C dx [])∧Q .non (upd H p (.ins g.Calls.C dx (fCalls na 0)))
theorem ok_Calls_init (g:Pg K mg):FnOk P w K mg base CX0 1 g.Calls.a g.Calls.fd ["self","numbers"] (sp_Calls_init g):=by
  refine g.Calls.F.ok sc_Calls_init (fun vs H Q E h=>?_) (fun cdv A outer s H vs Q E hr h=>?_)
  · obtain ⟨p,dx,na,rfl,_⟩:=h; rfl
  · obtain ⟨p,dx,na,rfl,hp,q⟩:=h
    refine ⟨_,(pss_cons (ps_fld (pv 0) (pv 1) rfl)
      (pss_one (ps_fld (pv 0) pe_int rfl))),?_⟩
    refine ⟨_,rfl,_,rfl,fsto hp g.Calls.cl (g.Calls.na _ (by decide +kernel)) (by simp) (pi_Calls_numbers (x1:=0)) ?_⟩
    refine ⟨_,rfl,fsto upd_same g.Calls.cl (g.Calls.na _ (by decide +kernel)) (by simp) pi_Calls_place ?_⟩
    rw [upd_upd]
    exact q
theorem mk_Calls (g:Pg K mg) {na:Addr}{H:Hp}{R:Addr->Hp->Prop}{E:XK} (h:∀ x H',H x=none->Same H H'->(∃ dx,H' x=some (.ins g.Calls.C dx (fCalls na 0)))->R x H'):∀ x dx,H x=none->H dx=none->dx ≠ x →
    sp_Calls_init g (.ref x :: ([.ref na] ++ [])) (upd (upd H dx (.own x)) x (.ins g.Calls.C dx [])) (fun v H2=>v = .non∧R x H2) E:=fun x dx nx nd ne =>
  ⟨x,dx,na,rfl,upd_same,rfl,h x _ nx (by rw [upd_upd]; exact same_new2 nx nd) ⟨dx,upd_same⟩⟩
def sp_Calls_more (g:Pg K mg):Sp:=fun vs H Q _=>∃ (cl dx na:Addr) (ns:List Int) (n:Nat),vs=[.ref cl]∧H cl=some (.ins g.Calls.C dx (fCalls na (n:Int)))∧ArgL K H na (ns.map V.int)∧Q (.bl (decide (n < ns.length))) H
theorem ok_Calls_more (g:Pg K mg):FnOk P w K mg base CX0 1 g.m_Calls_more.a g.m_Calls_more.fd ["self"] (sp_Calls_more g):=by
  refine g.m_Calls_more.F.ok sc_Calls_more (fun vs H Q E h=>?_) (fun cdv A outer s H vs Q E hr h=>?_)
  · obtain ⟨cl,dx,na,ns,n,rfl,_⟩:=h; rfl
  · obtain ⟨cl,dx,na,ns,n,rfl,ho,ha,q⟩:=h
    refine ⟨_,(pss_one (ps_ret (pe_cmpR op_lt (pe_fld (pv 0) rfl) (pe_callB call_len_seq (by rfl) g.n_len PySem.boot_len (pa_cons (pe_fld (pv 0) rfl) pa_nil)) (nomark _)))),?_⟩
    refine ⟨_,rfl,rf_Calls_place g ho ⟨_,rfl,rf_Calls_numbers g ho ⟨_,_,rfl,.inl ha.seq,_,_,rfl,rfl,?_⟩⟩⟩
    have e:decide ((n:Int) < ((ns.map V.int).length:Int))=decide (n < ns.length):=by rw [List.length_map]; exact decide_eq_decide.mpr (by omega)
    show Q (.bl (decide ((n:Int) < ((ns.map V.int).length:Int)))) H
    rw [e]
    exact q
def sp_Calls_take_number (g:Pg K mg):Sp:=fun vs H Q _=>∃ (cl dx na:Addr) (ns:List Int) (n:Nat) (z:Int),vs=[.ref cl]∧H cl=some (.ins g.Calls.C dx (fCalls na (n:Int)))∧ArgL K H na (ns.map V.int)∧ns[n]?=some z∧Q (.int z) (upd H cl (.ins g.Calls.C dx (fCalls na ((n + 1:Nat):Int))))
theorem ok_Calls_take_number (g:Pg K mg):FnOk P w K mg base CX0 1 g.m_Calls_take_number.a g.m_Calls_take_number.fd ["self"] (sp_Calls_take_number g):=by
  refine g.m_Calls_take_number.F.ok sc_Calls_take_number (fun vs H Q E h=>?_) (fun cdv A outer s H vs Q E hr h=>?_)
  · obtain ⟨cl,dx,na,ns,n,z,rfl,_⟩:=h; rfl
  · obtain ⟨cl,dx,na,ns,n,z,rfl,ho,ha,hz,q⟩:=h
    refine ⟨_,(pss_cons (ps_set (i:=1) sc_Calls_take_number.nd rfl (Or.inl rfl) (pe_ix ix_list (pe_fld (pv 0) rfl) (pe_fld (pv 0) rfl) (fun _ _=>rfl)))
      (pss_cons (ps_fldaug (pv 0) pe_int in_add)
      (pss_one (ps_ret (pv 1))))),?_⟩
    refine ⟨_,rfl,rf_Calls_numbers g ho ⟨_,rfl,rf_Calls_place g ho ⟨na,_,_,V.int z,rfl,rfl,ha.seq,atI_nat (by rw [List.getElem?_map,hz]; rfl),?_⟩⟩⟩
    refine ⟨_,rfl,cl,_,dx,_,_,rfl,ho,g.Calls.cl,g.Calls.na _ (by decide +kernel),lk_Calls_place,_,_,rfl,rfl,dx,_,ho,(by show 2 < 1000; decide),?_⟩
    rw [pf_Calls_place]
    exact ⟨_,rfl,q⟩
def sp_Calls_take_row (g:Pg K mg):Sp:=fun vs H Q _=>∃ (cl dx na:Addr) (ns:List Int) (n:Nat) (row t:List Int),vs=[.ref cl]∧H cl=some (.ins g.Calls.C dx (fCalls na (n:Int)))∧ArgL K H na (ns.map V.int)∧ns.drop n=(row.length:Int) :: (row ++ t) ∧
  ∀ p H',H p=none->(∀ b o,H b=some o->b ≠ cl->H' b=some o)->H' p=some (.lst (row.map V.int))->H' cl=some (.ins g.Calls.C dx (fCalls na ((n + 1 + row.length:Nat):Int)))->Q (.ref p) H'
theorem ok_Calls_take_row (g:Pg K mg):FnOk P w K mg base CX0 2 g.m_Calls_take_row.a g.m_Calls_take_row.fd ["self"] (sp_Calls_take_row g):=by
  refine g.m_Calls_take_row.F.ok sc_Calls_take_row (fun vs H Q E h=>?_) (fun cdv A outer s H vs Q E hr h=>?_)
  · obtain ⟨cl,dx,na,ns,n,row,t,rfl,_⟩:=h; rfl
  · obtain ⟨cl,dx,na,ns,n,row,t,rfl,ho,ha,hd,q⟩:=h
    refine ⟨_,(pss_cons (ps_set (i:=1) sc_Calls_take_row.nd rfl (Or.inl rfl) (pe_meth0 (pv 0) g.Calls.cl g.m_Calls_take_number.m (ok_Calls_take_number g) (hr.mono (by decide)) g.m_Calls_take_number.b .nil pass0))
      (pss_cons (ps_set (i:=2) sc_Calls_take_row.nd rfl (Or.inl rfl) (pe_slice sl_list (pe_fld (pv 0) rfl) (po_some (pe_fld (pv 0) rfl)) (po_some (pe_op op_add (pe_fld (pv 0) rfl) (pv 1)))))
      (pss_cons (ps_fldaug (pv 0) (pv 1) in_add)
      (pss_one (ps_ret (pv 2)))))),?_⟩
    obtain ⟨hz,hd2⟩:=Cm.get_of_drop hd
    refine ⟨_,rfl,rm_Calls_take_number g ho ⟨cl,dx,na,ns,n,_,rfl,ho,ha,hz,?_⟩⟩
    generalize e1:upd H cl (.ins g.Calls.C dx (fCalls na ((n + 1:Nat):Int)))=H1
    have ho1:H1 cl=some (.ins g.Calls.C dx (fCalls na ((n + 1:Nat):Int))):=by rw [← e1]; exact upd_same
    have ha1:ArgL K H1 na (ns.map V.int):=ha.keep fun b o u hb=>by rw [← e1,upd_ne (frz_ins hb ho)]; exact hb
    refine ⟨_,rfl,rf_Calls_numbers g ho1 ⟨_,rfl,rf_Calls_place g ho1 ⟨_,rfl,_,rfl,rf_Calls_place g ho1 ⟨_,rfl,_,_,rfl,rfl,_,rfl,na,_,rfl,ha1.seq,fun p hp=>?_⟩⟩⟩⟩
    have hlen:n + 1 + row.length ≤ ns.length:=by
      have h1:=congrArg List.length hd2
      rw [List.length_append,List.length_drop] at h1
      have:=(List.getElem?_eq_some_iff.mp hz).1
      omega
    have ecut:cutV (ns.map V.int) (some ((n + 1:Nat):Int)) (some (((n + 1:Nat):Int) + (row.length:Int)))=row.map V.int:=by
      have:=cut_mid (xs:=ns.map V.int) (a:=n + 1) (b:=n + 1 + row.length) (by omega) (by rw [List.length_map]; exact hlen)
      rw [show n + 1 + row.length - (n + 1)=row.length by omega,← List.map_drop,← hd2,← List.map_take,List.take_left] at this
      exact this
    generalize e2:upd H1 p (.lst (cutV (ns.map V.int) (some ((n + 1:Nat):Int)) (some (((n + 1:Nat):Int) + (row.length:Int)))))=H2
    have p_cl:cl ≠ p:=ne_of_none ho1 hp
    have ho2:H2 cl=some (.ins g.Calls.C dx (fCalls na ((n + 1:Nat):Int))):=by rw [← e2,upd_ne p_cl]; exact ho1
    refine ⟨_,rfl,cl,_,dx,_,_,rfl,ho2,g.Calls.cl,g.Calls.na _ (by decide +kernel),lk_Calls_place,_,rfl,_,_,rfl,rfl,dx,_,ho2,(by show 2 < 1000; decide),?_⟩
    rw [pf_Calls_place]
    have hpH:H p=none:=by rw [← e1,upd_ne (Ne.symm p_cl)] at hp; exact hp
    refine ⟨_,rfl,q p _ hpH (fun b o hb hne=>?_) ?_ upd_same⟩
    · rw [upd_ne hne,← e2,upd_ne (ne_of_none hb hpH),← e1,upd_ne hne]
      exact hb
    · rw [upd_ne (Ne.symm p_cl),← e2,upd_same,ecut]
def sp_Held_init (g:Pg K mg):Sp:=fun vs H Q _=>∃ (N:Addr->Prop) (p dx:Addr),vs=[.ref p]∧H p=some (.ins g.Held.C dx [])∧(∀ b,H b=none->N b)∧∀ bf H',But p H H'->HeldAt g N H' p bf Vafmta.start->Q .non H'
theorem ok_Held_init (g:Pg K mg):FnOk P w K mg base CX0 10 g.Held.a g.Held.fd ["self"] (sp_Held_init g):=by
  refine g.Held.F.ok sc_Held_init (fun vs H Q E h=>?_) (fun cdv A outer s H vs Q E hr h=>?_)
  · obtain ⟨N,p,dx,rfl,_⟩:=h; rfl
  · obtain ⟨N,p,dx,rfl,hp,hN,q⟩:=h
    refine ⟨_,(pss_cons (ps_fld (pv 0) (pe_call (ok_cut_whole g) (hr.mono (by decide)) rfl g.f_cut_whole.m g.f_cut_whole.F.kp g.f_cut_whole.b .nil pass0 (pa_cons (pe_lst pa_nil) pa_nil)) rfl)
      (pss_one (ps_fld (pv 0) (pe_lst pa_nil) rfl))),?_⟩
    refine ⟨by decide,fun t0 ht0=>?_⟩
    have s0:Same H (upd H t0 (.lst [])):=same_new ht0
    refine ⟨N,t0,[],rfl,fun b hb=>hN b (s0.free hb),upd_same,hN t0 ht0,by simp,fun x sl as H1 s1 nx C1=>?_⟩
    have s01:=s0.trans s1
    have hp1:=s01 _ _ hp
    refine ⟨_,rfl,fsto hp1 g.Held.cl (g.Held.na _ (by decide +kernel)) (by simp) (pi_Held_now (x1:=x)) ?_⟩
    refine ⟨by decide,fun bf hbf=>?_⟩
    have b_p:bf ≠ p:=fun e=>by rw [e,upd_same] at hbf; cases hbf
    rw [upd_ne b_p] at hbf
    refine ⟨_,rfl,fsto (by rw [upd_ne (Ne.symm b_p)]; exact upd_same) g.Held.cl (g.Held.na _ (by decide +kernel)) (by simp) pi_Held_before ?_⟩
    generalize e4:upd (upd (upd H1 p _) bf (.lst [])) p _=H4
    have k4:∀ b o,H1 b=some o->b ≠ p->H4 b=some o:=fun b o hb hne=>by rw [← e4,upd_ne hne,upd_ne (ne_of_none hb hbf),upd_ne hne]; exact hb
    have z:TrC N (fun a=>N a∧a ≠ bf) H1 H4:=⟨fun a C d k v r e1 e2 _=>k4 a _ e1 (fun e=>by
      rw [e,hp1] at e1
      have:=Option.some.inj e1
      injection this with q1 q2 q3
      cases q3),fun a xs e1 n=>⟨k4 a _ e1 (Ne.symm (ins_lst hp1 e1)),n,ne_of_none e1 hbf⟩⟩
    refine q bf H4 (fun b o hb hne=>k4 b o (s01 b o hb) hne) ⟨⟨dx,x,[],by rw [← e4]; exact upd_same,⟨t0,sl,as,_,C1.trC z⟩,by rw [← e4,upd_ne b_p]; exact upd_same,.nil⟩,hN bf (s01.free hbf),Nat.zero_le _⟩
theorem mk_Held (g:Pg K mg) {N:Addr->Prop}{H:Hp}{R:Addr->Hp->Prop}{E:XK} (hN:∀ b,H b=none->N b) (h:∀ x bf H',H x=none->Same H H'->HeldAt g N H' x bf Vafmta.start->R x H'):∀ x dx,H x=none->H dx=none->dx ≠ x →
    sp_Held_init g (.ref x :: ([] ++ [])) (upd (upd H dx (.own x)) x (.ins g.Held.C dx [])) (fun v H2=>v = .non∧R x H2) E:=fun x dx nx nd ne=>by
  have s1:Same H (upd (upd H dx (.own x)) x (.ins g.Held.C dx [])):=same_new2 nx nd
  exact ⟨N,x,dx,rfl,upd_same,fun b hb=>hN b (s1.free hb),fun bf H' b T=>⟨rfl,h x bf H' nx (b.same s1 nx) T⟩⟩
def sp_tell_of_all (g:Pg K mg):Sp:=fun vs H Q _=>∃ (hd:Addr) (h:Vafmta.Held) (z:Int) (c:Vafmta.Call),vs=[.ref hd,.int z]∧HAt g H hd h∧((z=3∧c = .text) ∨ (z=4∧c = .tokens) ∨ (z=8∧c = .stretches) ∨ (z=13∧c = .spaced))∧Tells H Q (Vafmta.told h c)
theorem HAt.obj {g:Pg K mg}{H:Hp}{hd:Addr}{h:Vafmta.Held} (t:HAt g H hd h):∃ dx x bf,H hd=some (.ins g.Held.C dx (fHeld x bf)):=by
  obtain ⟨N,dx,x,bf,ho,_⟩:=t
  exact ⟨dx,x,bf,ho⟩
theorem dec_no {z k:Int} (h:z ≠ k):decide (V.int z=V.int k)=false:=decide_eq_false fun e=>h (V.int.inj e)
theorem dec_yes {z k:Int} (h:z=k):decide (V.int z=V.int k)=true:=decide_eq_true (congrArg V.int h)
theorem ok_tell_of_all (g:Pg K mg):FnOk P w K mg base CX0 11 g.f_tell_of_all.a g.f_tell_of_all.fd ["held","number"] (sp_tell_of_all g):=by
  refine g.f_tell_of_all.F.ok sc_tell_of_all (fun vs H Q E h=>?_) (fun cdv A outer s H vs Q E hr h=>?_)
  · obtain ⟨hd,h,z,c,rfl,_⟩:=h; rfl
  · obtain ⟨hd,h,z,c,rfl,T,hz,q⟩:=h
    refine ⟨_,(pss_cons (ps_if (pt_cmpR op_eq (pv 1) (pe_gint rfl g.g_TEXT) (nomark _)) (pss_one (ps_ret (pe_meth0 (pv 0) g.Held.cl g.m_Held_tell_text.m (ok_Held_tell_text g) (hr.mono (by decide)) g.m_Held_tell_text.b .nil pass0))) pss_nil)
      (pss_cons (ps_if (pt_cmpR op_eq (pv 1) (pe_gint rfl g.g_TOKENS) (nomark _)) (pss_one (ps_ret (pe_meth0 (pv 0) g.Held.cl g.m_Held_tell_tokens.m (ok_Held_tell_tokens g) (hr.mono (by decide)) g.m_Held_tell_tokens.b .nil pass0))) pss_nil)
      (pss_cons (ps_if (pt_cmpR op_eq (pv 1) (pe_gint rfl g.g_STRETCHES) (nomark _)) (pss_one (ps_ret (pe_meth0 (pv 0) g.Held.cl g.m_Held_tell_stretches.m (ok_Held_tell_stretches g) (hr.mono (by decide)) g.m_Held_tell_stretches.b .nil pass0))) pss_nil)
      (pss_one (ps_ret (pe_meth0 (pv 0) g.Held.cl g.m_Held_tell_spaced.m (ok_Held_tell_spaced g) (hr.mono (by decide)) g.m_Held_tell_spaced.b .nil pass0)))))),?_⟩
    obtain ⟨dx,x,bf,ho⟩:=T.obj
    rcases hz with ⟨rfl,rfl⟩ | ⟨rfl,rfl⟩ | ⟨rfl,rfl⟩ | ⟨rfl,rfl⟩
    · refine ⟨_,rfl,rfl,_,rfl,?_⟩
      rw [dec_yes rfl]
      exact iteT ⟨_,rfl,rm_Held_tell_text g ho ⟨hd,h,rfl,T,q⟩⟩
    · refine ⟨_,rfl,rfl,_,rfl,?_⟩
      rw [dec_no (by decide)]
      refine iteF ⟨_,rfl,rfl,_,rfl,?_⟩
      rw [dec_yes rfl]
      exact iteT ⟨_,rfl,rm_Held_tell_tokens g ho ⟨hd,h,rfl,T,q⟩⟩
    · refine ⟨_,rfl,rfl,_,rfl,?_⟩
      rw [dec_no (by decide)]
      refine iteF ⟨_,rfl,rfl,_,rfl,?_⟩
      rw [dec_no (by decide)]
      refine iteF ⟨_,rfl,rfl,_,rfl,?_⟩
      rw [dec_yes rfl]
      exact iteT ⟨_,rfl,rm_Held_tell_stretches g ho ⟨hd,h,rfl,T,q⟩⟩
    · refine ⟨_,rfl,rfl,_,rfl,?_⟩
      rw [dec_no (by decide)]
      refine iteF ⟨_,rfl,rfl,_,rfl,?_⟩
      rw [dec_no (by decide)]
      refine iteF ⟨_,rfl,rfl,_,rfl,?_⟩
      rw [dec_no (by decide)]
      exact iteF ⟨_,rfl,rm_Held_tell_spaced g ho ⟨hd,h,rfl,T,q⟩⟩
def sp_tell_of_one (g:Pg K mg):Sp:=fun vs H Q _=>∃ (hd:Addr) (h:Vafmta.Held) (z i:Int) (c:Vafmta.Call),vs=[.ref hd,.int z,.int i]∧HAt g H hd h∧((z=5∧c = .token i) ∨ (z=6∧c = .leads i) ∨ (z=7∧c = .behind i) ∨ (z=9∧c = .stretch i) ∨ (z=10∧c = .place i))∧Tells H Q (Vafmta.told h c)
theorem ok_tell_of_one (g:Pg K mg):FnOk P w K mg base CX0 6 g.f_tell_of_one.a g.f_tell_of_one.fd ["held","number","which"] (sp_tell_of_one g):=by
  refine g.f_tell_of_one.F.ok sc_tell_of_one (fun vs H Q E h=>?_) (fun cdv A outer s H vs Q E hr h=>?_)
  · obtain ⟨hd,h,z,i,c,rfl,_⟩:=h; rfl
  · obtain ⟨hd,h,z,i,c,rfl,T,hz,q⟩:=h
    refine ⟨_,(pss_cons (ps_if (pt_cmpR op_eq (pv 1) (pe_gint rfl g.g_TOKEN) (nomark _)) (pss_one (ps_ret (pe_meth (pv 0) g.Held.cl g.m_Held_tell_token.m (ok_Held_tell_token g) (hr.mono (by decide)) g.m_Held_tell_token.b .nil pass0 (pa_cons (pv 2) pa_nil)))) pss_nil)
      (pss_cons (ps_if (pt_cmpR op_eq (pv 1) (pe_gint rfl g.g_LEADS) (nomark _)) (pss_one (ps_ret (pe_meth (pv 0) g.Held.cl g.m_Held_tell_leads.m (ok_Held_tell_leads g) (hr.mono (by decide)) g.m_Held_tell_leads.b .nil pass0 (pa_cons (pv 2) pa_nil)))) pss_nil)
      (pss_cons (ps_if (pt_cmpR op_eq (pv 1) (pe_gint rfl g.g_BEHIND) (nomark _)) (pss_one (ps_ret (pe_meth (pv 0) g.Held.cl g.m_Held_tell_behind.m (ok_Held_tell_behind g) (hr.mono (by decide)) g.m_Held_tell_behind.b .nil pass0 (pa_cons (pv 2) pa_nil)))) pss_nil)
      (pss_cons (ps_if (pt_cmpR op_eq (pv 1) (pe_gint rfl g.g_STRETCH) (nomark _)) (pss_one (ps_ret (pe_meth (pv 0) g.Held.cl g.m_Held_tell_stretch.m (ok_Held_tell_stretch g) (hr.mono (by decide)) g.m_Held_tell_stretch.b .nil pass0 (pa_cons (pv 2) pa_nil)))) pss_nil)
      (pss_one (ps_ret (pe_meth (pv 0) g.Held.cl g.m_Held_tell_place.m (ok_Held_tell_place g) (hr.mono (by decide)) g.m_Held_tell_place.b .nil pass0 (pa_cons (pv 2) pa_nil)))))))),?_⟩
    obtain ⟨dx,x,bf,ho⟩:=T.obj
    rcases hz with ⟨rfl,rfl⟩ | ⟨rfl,rfl⟩ | ⟨rfl,rfl⟩ | ⟨rfl,rfl⟩ | ⟨rfl,rfl⟩
    · refine ⟨_,rfl,rfl,_,rfl,?_⟩
      rw [dec_yes rfl]
      exact iteT ⟨_,rfl,rm_Held_tell_token g ho ⟨_,rfl,hd,h,i,rfl,T,q⟩⟩
    · refine ⟨_,rfl,rfl,_,rfl,?_⟩
      rw [dec_no (by decide)]
      refine iteF ⟨_,rfl,rfl,_,rfl,?_⟩
      rw [dec_yes rfl]
      exact iteT ⟨_,rfl,rm_Held_tell_leads g ho ⟨_,rfl,hd,h,i,rfl,T,q⟩⟩
    · refine ⟨_,rfl,rfl,_,rfl,?_⟩
      rw [dec_no (by decide)]
      refine iteF ⟨_,rfl,rfl,_,rfl,?_⟩
      rw [dec_no (by decide)]
      refine iteF ⟨_,rfl,rfl,_,rfl,?_⟩
      rw [dec_yes rfl]
      exact iteT ⟨_,rfl,rm_Held_tell_behind g ho ⟨_,rfl,hd,h,i,rfl,T,q⟩⟩
    · refine ⟨_,rfl,rfl,_,rfl,?_⟩
      rw [dec_no (by decide)]
      refine iteF ⟨_,rfl,rfl,_,rfl,?_⟩
      rw [dec_no (by decide)]
      refine iteF ⟨_,rfl,rfl,_,rfl,?_⟩
      rw [dec_no (by decide)]
      refine iteF ⟨_,rfl,rfl,_,rfl,?_⟩
      rw [dec_yes rfl]
      exact iteT ⟨_,rfl,rm_Held_tell_stretch g ho ⟨_,rfl,hd,h,i,rfl,T,q⟩⟩
    · refine ⟨_,rfl,rfl,_,rfl,?_⟩
      rw [dec_no (by decide)]
      refine iteF ⟨_,rfl,rfl,_,rfl,?_⟩
      rw [dec_no (by decide)]
      refine iteF ⟨_,rfl,rfl,_,rfl,?_⟩
      rw [dec_no (by decide)]
      refine iteF ⟨_,rfl,rfl,_,rfl,?_⟩
      rw [dec_no (by decide)]
      exact iteF ⟨_,rfl,rm_Held_tell_place g ho ⟨_,rfl,hd,h,i,rfl,T,q⟩⟩
end
end Cb
end
section
set_option maxRecDepth 100000
set_option maxHeartbeats 4000000
namespace Cb
open PySem PySem.Spec PyProof.Rows L2
open Cm (bi)
theorem inV_ints (z:Int):∀ (l:List Int),inV (.int z) (l.map V.int)=decide (z ∈ l)
  | []=>rfl
  | a :: l=>by
    show (eqV (.int a) (.int z) || inV (.int z) (l.map V.int))=_
    rw [inV_ints z l]
    show ((a == z) || decide (z ∈ l))=_
    apply Bool.eq_iff_iff.mpr
    simp only [Bool.or_eq_true,beq_iff_eq,decide_eq_true_eq,List.mem_cons]
    constructor
    · rintro (h | h)
      · exact .inl h.symm
      · exact .inr h
    · rintro (h | h)
      · exact .inl h.symm
      · exact .inr h
theorem row_ok {t:List Int} (h:(t.all fun z=>VafmtaNeutral.natural z 8)=true):NeutralIO.bytes t=true∧t.map V.int=bV (VafmtaNeutral.bytes t)∧(VafmtaNeutral.bytes t).length=t.length:=by
  have h':=List.all_eq_true.mp h
  have hz:∀ z ∈ t,0 ≤ z∧z < 256:=fun z hz=>by
    have:=h' z hz
    unfold VafmtaNeutral.natural at this
    have q:=Bool.and_eq_true_iff.mp this
    exact ⟨of_decide_eq_true q.1,of_decide_eq_true q.2⟩
  refine ⟨?_,?_,by unfold VafmtaNeutral.bytes; rw [List.length_map]⟩
  · unfold NeutralIO.bytes
    rw [List.all_eq_true]
    intro z q
    have:=hz z q
    rw [decide_eq_true (by omega),decide_eq_true (by omega)]
    rfl
  · unfold bV VafmtaNeutral.bytes
    rw [List.map_map]
    apply List.map_congr_left
    intro z q
    have:=hz z q
    simp only [Function.comp]
    have e:=(Cm.bi_eq (UInt8.ofNat z.toNat) z.toNat (by omega)).mpr rfl
    rw [e]
    congr 1
    omega
section
variable {P:Program}{w:World}{K:PySem.W.Frag}{mg:Str->Option Value}{base:Heap}
def Does (g:Pg K mg) (N:Addr->Prop) (H:Hp) (hd bf cl dx na:Addr) (ns:List Int) (st:Vafmta.State) (c:List (List Int)) (rest:List Int) (Q:VK):Prop:=∀ l bf' H' (n':Nat),(∀ o,H l=some o->l=hd ∨ l=bf ∨ l=cl)->(∀ b o,H b=some o->b ≠ hd->b ≠ bf->b ≠ cl->H' b=some o)->HeldAt g N H' hd bf' (VafmtaNeutral.step st c).1 →
  H' cl=some (.ins g.Calls.C dx (fCalls na (n':Int)))->ns.drop n'=rest->n' ≤ ns.length->H' l=some (.lst ((VafmtaNeutral.step st c).2.map V.int))->(VafmtaNeutral.step st c).2.length ≤ 100000->Q (.ref l) H'
theorem cl_hd {H:Hp}{a b C C' d d' x y z:Addr}{n:Int} (h:H a=some (.ins C d (fCalls x n))) (h':H b=some (.ins C' d' (fHeld y z))):a ≠ b:=ne_of h h' fun e=>by
  injection e with q1 q2 q3
  injection q3 with q4 q5
  injection q4 with q6 q7
  exact absurd q6 (by decide +kernel)
theorem HeldAt.read {g:Pg K mg}{N:Addr->Prop}{H H':Hp}{hd bf cl dx na:Addr}{n:Int}{st:Vafmta.State} (T:HeldAt g N H hd bf st) (hc:H cl=some (.ins g.Calls.C dx (fCalls na n))) (k:∀ b o,H b=some o->b ≠ cl->H' b=some o):HeldAt g N H' hd bf st:=T.keep fun b o e n1 _=>k b o e fun q=>by
  rw [q,hc] at e
  exact n1 _ _ _ _ (Option.some.inj e).symm
theorem free_read {H H':Hp}{cl:Addr}{o:HO} (k:∀ b o,H b=some o->b ≠ cl->H' b=some o) (hc:H' cl=some o) {b:Addr} (h:H' b=none):H b=none:=by
  cases e:H b with
  | none=>rfl
  | some u =>
    by_cases q:b=cl
    · rw [q,hc] at h; cases h
    · rw [k b u e q] at h; cases h
theorem step_of {st:Vafmta.State}{c:List (List Int)}{k:Vafmta.Call} (h:VafmtaNeutral.callOf c=some k):VafmtaNeutral.step st c=((Vafmta.step st k).1,(Vafmta.step st k).2.num :: (Vafmta.step st k).2.rest):=by
  unfold VafmtaNeutral.step
  rw [h]
  rfl
theorem new3 {H H1:Hp}{hd bf cl l:Addr}{o:HO} (k:∀ b o,H b=some o->b ≠ cl->H1 b=some o) (h:H l=some o) (n:H1 l=some o->l=hd ∨ l=bf):l=hd ∨ l=bf ∨ l=cl:=by
  by_cases e:l=cl
  · exact .inr (.inr e)
  · rcases n (k l o h e) with e | e
    · exact .inl e
    · exact .inr (.inl e)
theorem Does.changes {g:Pg K mg}{N:Addr->Prop}{H H1:Hp}{hd bf cl dx na:Addr}{ns:List Int}{st:Vafmta.State}{c:List (List Int)}{k:Vafmta.Call}{rest:List Int}{Q:VK}{n':Nat} (q:Does g N H hd bf cl dx na ns st c rest Q) (hk:VafmtaNeutral.callOf c=some k)
    (k1:∀ b o,H b=some o->b ≠ cl->H1 b=some o) (hc1:H1 cl=some (.ins g.Calls.C dx (fCalls na (n':Int)))) (T1:HeldAt g N H1 hd bf st) (hr:ns.drop n'=rest) (hn:n' ≤ ns.length):Changes g N H1 hd bf Q (Vafmta.step st k):=fun l bf' H' nl k2 T' hl hlen=>by
  have e:=step_of (st:=st) hk
  obtain ⟨d1,x1,bs1,ho1,_,hb1,_⟩:=T1.obj
  refine q l bf' H' n' (fun o h=>new3 k1 h (nl o)) (fun b o h n1 n2 n3=>k2 b o (k1 b o h n3) n1 n2) (by rw [e]; exact T') (k2 _ _ hc1 (cl_hd hc1 ho1) (ins_lst hc1 hb1)) hr hn (by rw [e]; exact hl) (by rw [e]; have z:(ansV (Vafmta.step st k).2).length=((Vafmta.step st k).2.num :: (Vafmta.step st k).2.rest).length:=List.length_map ..; rw [z] at hlen; exact hlen)
theorem Does.tells {g:Pg K mg}{N:Addr->Prop}{H H1:Hp}{hd bf cl dx na:Addr}{ns:List Int}{st:Vafmta.State}{c:List (List Int)}{k:Vafmta.Call}{rest:List Int}{Q:VK}{n':Nat} (q:Does g N H hd bf cl dx na ns st c rest Q) (hk:VafmtaNeutral.callOf c=some k) (ht:Vafmta.step st k=(st,Vafmta.told st.held k))
    (k1:∀ b o,H b=some o->b ≠ cl->H1 b=some o) (hc1:H1 cl=some (.ins g.Calls.C dx (fCalls na (n':Int)))) (T1:HeldAt g N H1 hd bf st) (hr:ns.drop n'=rest) (hn:n' ≤ ns.length):Tells H1 Q (Vafmta.told st.held k):=fun l H' nl s hl hlen=>by
  have e:=step_of (st:=st) hk
  rw [ht] at e
  refine q l bf H' n' (fun o h=>new3 k1 h (fun e=>by rw [nl] at e; cases e)) (fun b o h n1 n2 n3=>s b o (k1 b o h n3)) (by rw [e]; exact T1.same s) (s _ _ hc1) hr hn (by rw [e]; exact hl) (by rw [e]; have z:(ansV (Vafmta.told st.held k)).length=((Vafmta.told st.held k).num :: (Vafmta.told st.held k).rest).length:=List.length_map ..; rw [z] at hlen; exact hlen)
theorem drop_row {ns row t:List Int}{n:Nat} (h:ns.drop n=(row.length:Int) :: (row ++ t)):ns.drop (n + 1 + row.length)=t∧n + 1 + row.length ≤ ns.length:=by
  obtain ⟨hz,hd2⟩:=Cm.get_of_drop h
  have h1:=congrArg List.length hd2
  rw [List.length_append,List.length_drop] at h1
  have:=(List.getElem?_eq_some_iff.mp hz).1
  refine ⟨?_,by omega⟩
  rw [← List.drop_drop,← hd2,List.drop_left]
def sp_change (g:Pg K mg):Sp:=fun vs H Q _=>∃ (N:Addr->Prop) (hd bf cl dx na:Addr) (ns:List Int) (n:Nat) (st:Vafmta.State) (z:Int) (c:List (List Int)) (rest:List Int),vs=[.ref hd,.int z,.ref cl]∧(∀ b,H b=none->N b)∧HeldAt g N H hd bf st∧H cl=some (.ins g.Calls.C dx (fCalls na (n:Int)))∧ArgL K H na (ns.map V.int)∧n ≤ ns.length ∧
  MC.One1 (z :: ns.drop n) c rest∧(z=0 ∨ z=1 ∨ z=2)∧VafmtaNeutral.asked1 c=true∧Does g N H hd bf cl dx na ns st c rest Q
theorem ok_change (g:Pg K mg):FnOk P w K mg base CX0 11 g.f_change.a g.f_change.fd ["held","number","calls"] (sp_change g):=by
  refine g.f_change.F.ok sc_change (fun vs H Q E h=>?_) (fun cdv A outer s H vs Q E hr h=>?_)
  · obtain ⟨N,hd,bf,cl,dx,na,ns,n,st,z,c,rest,rfl,_⟩:=h; rfl
  · obtain ⟨N,hd,bf,cl,dx,na,ns,n,st,z,c,rest,rfl,hN,T,hcl,ha,hnl,ho1,hz,hask,q⟩:=h
    refine ⟨_,(pss_cons (ps_if (pt_cmpR op_eq (pv 1) (pe_gint rfl g.g_UNDO) (nomark _)) (pss_one (ps_ret (pe_meth0 (pv 0) g.Held.cl g.m_Held_undo.m (ok_Held_undo g) (hr.mono (by decide)) g.m_Held_undo.b .nil pass0))) pss_nil)
      (pss_cons (ps_if (pt_cmpR op_eq (pv 1) (pe_gint rfl g.g_LOAD) (nomark _)) (pss_one (ps_ret (pe_meth (pv 0) g.Held.cl g.m_Held_load.m (ok_Held_load g) (hr.mono (by decide)) g.m_Held_load.b .nil pass0 (pa_cons (pe_meth0 (pv 2) g.Calls.cl g.m_Calls_take_row.m (ok_Calls_take_row g) (hr.mono (by decide)) g.m_Calls_take_row.b .nil pass0) pa_nil)))) pss_nil)
      (pss_cons (ps_set (i:=3) sc_change.nd rfl (Or.inl rfl) (pe_meth0 (pv 2) g.Calls.cl g.m_Calls_take_number.m (ok_Calls_take_number g) (hr.mono (by decide)) g.m_Calls_take_number.b .nil pass0))
      (pss_cons (ps_set (i:=4) sc_change.nd rfl (Or.inl rfl) (pe_meth0 (pv 2) g.Calls.cl g.m_Calls_take_number.m (ok_Calls_take_number g) (hr.mono (by decide)) g.m_Calls_take_number.b .nil pass0))
      (pss_one (ps_ret (pe_meth (pv 0) g.Held.cl g.m_Held_edit.m (ok_Held_edit g) (hr.mono (by decide)) g.m_Held_edit.b .nil pass0 (pa_cons (pv 3) (pa_cons (pv 4) (pa_cons (pe_meth0 (pv 2) g.Calls.cl g.m_Calls_take_row.m (ok_Calls_take_row g) (hr.mono (by decide)) g.m_Calls_take_row.b .nil pass0) pa_nil)))))))))),?_⟩
    obtain ⟨dh,xh,bs,ho,_,hbf,_⟩:=T.obj
    have rowsOk:∀ {row:List Int},((row.all fun (z:Int)=>VafmtaNeutral.natural z 8) && decide (row.length ≤ 8000))=true->(row.all fun z=>VafmtaNeutral.natural z 8)=true∧row.length ≤ 8000:=fun h=>⟨(Bool.and_eq_true_iff.mp h).1,of_decide_eq_true (Bool.and_eq_true_iff.mp h).2⟩
    generalize hl:z :: ns.drop n=L at ho1
    cases ho1 with
    | n0 hp =>
      obtain ⟨e1,e2⟩:=List.cons.inj hl
      subst e1
      have z2:z=2:=by omega
      subst z2
      refine ⟨_,rfl,rfl,_,rfl,?_⟩
      rw [dec_yes rfl]
      exact iteT ⟨_,rfl,rm_Held_undo g ho ⟨N,hd,bf,st,rfl,T,q.changes rfl (fun b o h _=>h) hcl T e2 hnl⟩⟩
    | load hrow =>
      obtain ⟨e1,e2⟩:=List.cons.inj hl
      subst e1
      rename_i r row
      obtain ⟨k,ek,hk⟩:=hrow
      subst hk
      rw [← e2] at ek
      obtain ⟨hrok,hr8⟩:=rowsOk hask
      obtain ⟨rb,rv,rl⟩:=row_ok hrok
      obtain ⟨d1,d2⟩:=drop_row ek
      refine ⟨_,rfl,rfl,_,rfl,?_⟩
      rw [dec_no (by decide)]
      refine iteF ⟨_,rfl,rfl,_,rfl,?_⟩
      rw [dec_yes rfl]
      refine iteT ⟨_,rfl,rm_Held_load g ho ⟨_,rfl,rm_Calls_take_row g hcl ⟨cl,dx,na,ns,n,row,rest,rfl,hcl,ha,ek,fun p H1 np k1 hp hcl1=>?_⟩⟩⟩
      rw [rv] at hp
      have T1:=T.read hcl k1
      refine ⟨N,hd,bf,st,p,VafmtaNeutral.bytes row,rfl,fun b hb=>hN b (free_read k1 hcl1 hb),T1,hp,hN p np,q.changes (k:=.load (VafmtaNeutral.bytes row)) ?_ k1 hcl1 T1 d1 d2⟩
      show (if NeutralIO.bytes row=true then some (Vafmta.Call.load (VafmtaNeutral.bytes row)) else none)=_
      rw [if_pos rb]
    | edit hrow =>
      obtain ⟨e1,e2⟩:=List.cons.inj hl
      subst e1
      rename_i a b r row
      obtain ⟨k,ek,hk⟩:=hrow
      subst hk
      obtain ⟨hza,da⟩:=Cm.get_of_drop e2
      obtain ⟨hzb,db⟩:=Cm.get_of_drop da.symm
      rw [db] at ek
      have hask2:((row.all fun (z:Int)=>VafmtaNeutral.natural z 8) && decide (row.length ≤ 8000))=true:=(Bool.and_eq_true_iff.mp (Bool.and_eq_true_iff.mp hask).2).2
      obtain ⟨hrok,hr8⟩:=rowsOk hask2
      obtain ⟨rb,rv,rl⟩:=row_ok hrok
      obtain ⟨d1,d2⟩:=drop_row ek
      refine ⟨_,rfl,rfl,_,rfl,?_⟩
      rw [dec_no (by decide)]
      refine iteF ⟨_,rfl,rfl,_,rfl,?_⟩
      rw [dec_no (by decide)]
      refine iteF ⟨_,rfl,rm_Calls_take_number g hcl ⟨cl,dx,na,ns,n,a,rfl,hcl,ha,hza,?_⟩⟩
      generalize e1:upd H cl (.ins g.Calls.C dx (fCalls na ((n + 1:Nat):Int)))=H1
      have k1:∀ b o,H b=some o->b ≠ cl->H1 b=some o:=fun b o hb hne=>by rw [← e1,upd_ne hne]; exact hb
      have hcl1:H1 cl=some (.ins g.Calls.C dx (fCalls na ((n + 1:Nat):Int))):=by rw [← e1]; exact upd_same
      have ha1:ArgL K H1 na (ns.map V.int):=ha.keep fun b o u hb=>k1 _ _ hb (frz_ins hb hcl)
      refine ⟨_,rfl,rm_Calls_take_number g hcl1 ⟨cl,dx,na,ns,n + 1,b,rfl,hcl1,ha1,hzb,?_⟩⟩
      generalize e2:upd H1 cl (.ins g.Calls.C dx (fCalls na ((n + 1 + 1:Nat):Int)))=H2
      have k2:∀ b o,H1 b=some o->b ≠ cl->H2 b=some o:=fun b o hb hne=>by rw [← e2,upd_ne hne]; exact hb
      have hcl2:H2 cl=some (.ins g.Calls.C dx (fCalls na ((n + 1 + 1:Nat):Int))):=by rw [← e2]; exact upd_same
      have ha2:ArgL K H2 na (ns.map V.int):=ha1.keep fun b o u hb=>k2 _ _ hb (frz_ins hb hcl1)
      have k12:∀ b o,H b=some o->b ≠ cl->H2 b=some o:=fun b o hb hne=>k2 b o (k1 b o hb hne) hne
      have ho2:=k12 _ _ ho (Ne.symm (cl_hd hcl ho))
      refine ⟨_,rfl,rm_Held_edit g ho2 ⟨_,rfl,_,rfl,_,rfl,rm_Calls_take_row g hcl2 ⟨cl,dx,na,ns,n + 1 + 1,row,rest,rfl,hcl2,ha2,ek,fun p H3 np k3 hp hcl3=>?_⟩⟩⟩
      rw [rv] at hp
      have k13:∀ b o,H b=some o->b ≠ cl->H3 b=some o:=fun b o hb hne=>k3 b o (k12 b o hb hne) hne
      have T3:=T.read hcl k13
      refine ⟨N,hd,bf,st,a,b,p,VafmtaNeutral.bytes row,rfl,fun b hb=>hN b (free_read k13 hcl3 hb),T3,hp,by rw [rl]; exact hr8,q.changes (k:=.edit a b (VafmtaNeutral.bytes row)) ?_ k13 hcl3 T3 d1 d2⟩
      show (if NeutralIO.bytes row=true then some (Vafmta.Call.edit a b (VafmtaNeutral.bytes row)) else none)=_
      rw [if_pos rb]
    | n1 hp =>
      obtain ⟨e1,e2⟩:=List.cons.inj hl
      subst e1
      exfalso
      omega
    | offset =>
      obtain ⟨e1,e2⟩:=List.cons.inj hl
      subst e1
      exfalso
      omega
    | same hrow =>
      obtain ⟨e1,e2⟩:=List.cons.inj hl
      subst e1
      exfalso
      omega
def sp_answer (g:Pg K mg):Sp:=fun vs H Q _=>∃ (N:Addr->Prop) (hd bf cl dx na:Addr) (ns:List Int) (n:Nat) (st:Vafmta.State) (c:List (List Int)) (rest:List Int),vs=[.ref hd,.ref cl]∧(∀ b,H b=none->N b)∧HeldAt g N H hd bf st∧H cl=some (.ins g.Calls.C dx (fCalls na (n:Int)))∧ArgL K H na (ns.map V.int) ∧
  MC.One1 (ns.drop n) c rest∧VafmtaNeutral.asked1 c=true∧Does g N H hd bf cl dx na ns st c rest Q
theorem ok_answer (g:Pg K mg):FnOk P w K mg base CX0 12 g.f_answer.a g.f_answer.fd ["held","calls"] (sp_answer g):=by
  refine g.f_answer.F.ok sc_answer (fun vs H Q E h=>?_) (fun cdv A outer s H vs Q E hr h=>?_)
  · obtain ⟨N,hd,bf,cl,dx,na,ns,n,st,c,rest,rfl,_⟩:=h; rfl
  · obtain ⟨N,hd,bf,cl,dx,na,ns,n,st,c,rest,rfl,hN,T,hcl,ha,h1,hask,q⟩:=h
    refine ⟨_,(pss_cons (ps_set (i:=2) sc_answer.nd rfl (Or.inl rfl) (pe_meth0 (pv 1) g.Calls.cl g.m_Calls_take_number.m (ok_Calls_take_number g) (hr.mono (by decide)) g.m_Calls_take_number.b .nil pass0))
      (pss_cons (ps_if (pt_cmpR op_in_seq (pv 2) (pe_tup (pa_cons (pe_gint rfl g.g_LOAD) (pa_cons (pe_gint rfl g.g_EDIT) (pa_cons (pe_gint rfl g.g_UNDO) pa_nil)))) (by rfl)) (pss_one (ps_ret (pe_call (ok_change g) (hr.mono (by decide)) rfl g.f_change.m g.f_change.F.kp g.f_change.b .nil pass0 (pa_cons (pv 0) (pa_cons (pv 2) (pa_cons (pv 1) pa_nil)))))) pss_nil)
      (pss_cons (ps_if (pt_cmpR op_in_seq (pv 2) (pe_tup (pa_cons (pe_gint rfl g.g_TEXT) (pa_cons (pe_gint rfl g.g_TOKENS) (pa_cons (pe_gint rfl g.g_STRETCHES) (pa_cons (pe_gint rfl g.g_SPACED) pa_nil))))) (by rfl)) (pss_one (ps_ret (pe_call (ok_tell_of_all g) (hr.mono (by decide)) rfl g.f_tell_of_all.m g.f_tell_of_all.F.kp g.f_tell_of_all.b .nil pass0 (pa_cons (pv 0) (pa_cons (pv 2) pa_nil))))) pss_nil)
      (pss_cons (ps_if (pt_cmpR op_in_seq (pv 2) (pe_tup (pa_cons (pe_gint rfl g.g_TOKEN) (pa_cons (pe_gint rfl g.g_LEADS) (pa_cons (pe_gint rfl g.g_BEHIND) (pa_cons (pe_gint rfl g.g_STRETCH) (pa_cons (pe_gint rfl g.g_PLACE) pa_nil)))))) (by rfl)) (pss_one (ps_ret (pe_call (ok_tell_of_one g) (hr.mono (by decide)) rfl g.f_tell_of_one.m g.f_tell_of_one.F.kp g.f_tell_of_one.b .nil pass0 (pa_cons (pv 0) (pa_cons (pv 2) (pa_cons (pe_meth0 (pv 1) g.Calls.cl g.m_Calls_take_number.m (ok_Calls_take_number g) (hr.mono (by decide)) g.m_Calls_take_number.b .nil pass0) pa_nil)))))) pss_nil)
      (pss_cons (ps_if (pt_cmpR op_eq (pv 2) (pe_gint rfl g.g_OFFSET) (nomark _)) (pss_cons (ps_set (i:=3) sc_answer.nd rfl (Or.inl rfl) (pe_meth0 (pv 1) g.Calls.cl g.m_Calls_take_number.m (ok_Calls_take_number g) (hr.mono (by decide)) g.m_Calls_take_number.b .nil pass0))
        (pss_one (ps_ret (pe_meth (pv 0) g.Held.cl g.m_Held_tell_offset.m (ok_Held_tell_offset g) (hr.mono (by decide)) g.m_Held_tell_offset.b .nil pass0 (pa_cons (pv 3) (pa_cons (pe_meth0 (pv 1) g.Calls.cl g.m_Calls_take_number.m (ok_Calls_take_number g) (hr.mono (by decide)) g.m_Calls_take_number.b .nil pass0) pa_nil)))))) pss_nil)
      (pss_cons (ps_if (pt_cmpR op_eq (pv 2) (pe_gint rfl g.g_SAME) (nomark _)) (pss_one (ps_ret (pe_meth (pv 0) g.Held.cl g.m_Held_tell_same.m (ok_Held_tell_same g) (hr.mono (by decide)) g.m_Held_tell_same.b .nil pass0 (pa_cons (pe_meth0 (pv 1) g.Calls.cl g.m_Calls_take_row.m (ok_Calls_take_row g) (hr.mono (by decide)) g.m_Calls_take_row.b .nil pass0) pa_nil)))) pss_nil)
      (pss_one ps_never))))))),?_⟩
    obtain ⟨z,hz⟩:∃ z,ns[n]?=some z:=by
      cases e:ns.drop n with
      | nil=>rw [e] at h1; cases h1
      | cons z r=>exact ⟨z,(Cm.get_of_drop e).1⟩
    rw [Cm.drop_cons hz] at h1
    have hn1:n + 1 ≤ ns.length:=(List.getElem?_eq_some_iff.mp hz).1
    refine ⟨_,rfl,rm_Calls_take_number g hcl ⟨cl,dx,na,ns,n,z,rfl,hcl,ha,hz,?_⟩⟩
    generalize e1:upd H cl (.ins g.Calls.C dx (fCalls na ((n + 1:Nat):Int)))=H1
    have k1:∀ b o,H b=some o->b ≠ cl->H1 b=some o:=fun b o hb hne=>by rw [← e1,upd_ne hne]; exact hb
    have hcl1:H1 cl=some (.ins g.Calls.C dx (fCalls na ((n + 1:Nat):Int))):=by rw [← e1]; exact upd_same
    clear e1
    refine ⟨_,rfl,(by show 3 ≤ sizeLine; decide),fun p1 hp1=>⟨p1,_,rfl,.inr (SqT.of upd_same),rfl,rfl,_,rfl,?_⟩⟩
    rw [show (if false then !inV (V.int z) [.int 0,.int 1,.int 2] else inV (V.int z) [.int 0,.int 1,.int 2])=decide (z ∈ ([0,1,2]:List Int)) from inV_ints z [0,1,2]]
    generalize e2:upd H1 p1 (.tup [.int 0,.int 1,.int 2])=H2
    have s2:Same H1 H2:=by rw [← e2]; exact same_new hp1
    clear e2 hp1
    have k2:∀ b o,H b=some o->b ≠ cl->H2 b=some o:=fun b o hb hne=>s2 _ _ (k1 b o hb hne)
    have hcl2:=s2 _ _ hcl1
    have ha2:ArgL K H2 na (ns.map V.int):=ha.keep fun b o u hb=>k2 _ _ hb (frz_ins hb hcl)
    have T2:=T.read hcl k2
    have hN2:∀ b,H2 b=none->N b:=fun b hb=>hN b (free_read k2 hcl2 hb)
    refine ite2 (fun hm=>?_) (fun hm=>?_)
    · have hm':=of_decide_eq_true hm
      simp only [List.mem_cons,List.not_mem_nil,or_false] at hm'
      refine ⟨_,rfl,_,rfl,_,rfl,N,hd,bf,cl,dx,na,ns,n + 1,st,z,c,rest,rfl,hN2,T2,hcl2,ha2,hn1,h1,hm',hask,fun l bf' H' n' nl k3 T3 hc3 hr3 hn3 hl3 hlen=>?_⟩
      exact q l bf' H' n' (fun o h=>by
        by_cases e:l=cl
        · exact .inr (.inr e)
        · exact nl o (k2 l o h e)) (fun b o hb m1 m2 m3=>k3 b o (k2 b o hb m3) m1 m2 m3) T3 hc3 hr3 hn3 hl3 hlen
    have nm:¬ (z=0 ∨ z=1 ∨ z=2):=fun e=>hm (decide_eq_true (by simp only [List.mem_cons,List.not_mem_nil,or_false]; exact e))
    refine ⟨_,rfl,(by show 4 ≤ sizeLine; decide),fun p2 hp2=>⟨p2,_,rfl,.inr (SqT.of upd_same),rfl,rfl,_,rfl,?_⟩⟩
    rw [show (if false then !inV (V.int z) [.int 3,.int 4,.int 8,.int 13] else inV (V.int z) [.int 3,.int 4,.int 8,.int 13])=decide (z ∈ ([3,4,8,13]:List Int)) from inV_ints z [3,4,8,13]]
    generalize e3:upd H2 p2 (.tup [.int 3,.int 4,.int 8,.int 13])=H3
    have s3:Same H2 H3:=by rw [← e3]; exact same_new hp2
    clear e3 hp2
    have k3:∀ b o,H b=some o->b ≠ cl->H3 b=some o:=fun b o hb hne=>s3 _ _ (k2 b o hb hne)
    have hcl3:=s3 _ _ hcl2
    have ha3:ArgL K H3 na (ns.map V.int):=ha.keep fun b o u hb=>k3 _ _ hb (frz_ins hb hcl)
    have T3:=T.read hcl k3
    refine ite2 (fun hm2=>?_) (fun hm2=>?_)
    · have hm':=of_decide_eq_true hm2
      simp only [List.mem_cons,List.not_mem_nil,or_false] at hm'
      generalize hl:z :: ns.drop (n + 1)=L at h1
      cases h1 with
      | n0 hp =>
        obtain ⟨e1,e2⟩:=List.cons.inj hl
        subst e1
        rcases hm' with rfl | rfl | rfl | rfl
        · exact ⟨_,rfl,_,rfl,hd,st.held,3,.text,rfl,T3.at_,.inl ⟨rfl,rfl⟩,q.tells (k:=.text) rfl rfl k3 hcl3 T3 e2 hn1⟩
        · exact ⟨_,rfl,_,rfl,hd,st.held,4,.tokens,rfl,T3.at_,.inr (.inl ⟨rfl,rfl⟩),q.tells (k:=.tokens) rfl rfl k3 hcl3 T3 e2 hn1⟩
        · exact ⟨_,rfl,_,rfl,hd,st.held,8,.stretches,rfl,T3.at_,.inr (.inr (.inl ⟨rfl,rfl⟩)),q.tells (k:=.stretches) rfl rfl k3 hcl3 T3 e2 hn1⟩
        · exact ⟨_,rfl,_,rfl,hd,st.held,13,.spaced,rfl,T3.at_,.inr (.inr (.inr ⟨rfl,rfl⟩)),q.tells (k:=.spaced) rfl rfl k3 hcl3 T3 e2 hn1⟩
      | load hrow=>obtain ⟨e1,_⟩:=List.cons.inj hl; exfalso; omega
      | edit hrow=>obtain ⟨e1,_⟩:=List.cons.inj hl; exfalso; omega
      | n1 hp=>obtain ⟨e1,_⟩:=List.cons.inj hl; exfalso; omega
      | offset=>obtain ⟨e1,_⟩:=List.cons.inj hl; exfalso; omega
      | same hrow=>obtain ⟨e1,_⟩:=List.cons.inj hl; exfalso; omega
    have nm2:¬ (z=3 ∨ z=4 ∨ z=8 ∨ z=13):=fun e=>hm2 (decide_eq_true (by simp only [List.mem_cons,List.not_mem_nil,or_false]; exact e))
    refine ⟨_,rfl,(by show 5 ≤ sizeLine; decide),fun p3 hp3=>⟨p3,_,rfl,.inr (SqT.of upd_same),rfl,rfl,_,rfl,?_⟩⟩
    rw [show (if false then !inV (V.int z) [.int 5,.int 6,.int 7,.int 9,.int 10] else inV (V.int z) [.int 5,.int 6,.int 7,.int 9,.int 10])=decide (z ∈ ([5,6,7,9,10]:List Int)) from inV_ints z [5,6,7,9,10]]
    generalize e4:upd H3 p3 (.tup [.int 5,.int 6,.int 7,.int 9,.int 10])=H4
    have s4:Same H3 H4:=by rw [← e4]; exact same_new hp3
    clear e4 hp3
    have k4:∀ b o,H b=some o->b ≠ cl->H4 b=some o:=fun b o hb hne=>s4 _ _ (k3 b o hb hne)
    have hcl4:=s4 _ _ hcl3
    have ha4:ArgL K H4 na (ns.map V.int):=ha.keep fun b o u hb=>k4 _ _ hb (frz_ins hb hcl)
    have T4:=T.read hcl k4
    have more:∀ {m:Nat}{H5:Hp},(∀ b o,H b=some o->b ≠ cl->H5 b=some o)->(∀ b o,H b=some o->b ≠ cl->(upd H5 cl (.ins g.Calls.C dx (fCalls na (m:Int)))) b=some o):=fun k b o hb hne=>by rw [upd_ne hne]; exact k b o hb hne
    refine ite2 (fun hm3=>?_) (fun hm3=>?_)
    · have hm':=of_decide_eq_true hm3
      simp only [List.mem_cons,List.not_mem_nil,or_false] at hm'
      generalize hl:z :: ns.drop (n + 1)=L at h1
      cases h1 with
      | n1 hp =>
        obtain ⟨e1,e2⟩:=List.cons.inj hl
        subst e1
        rename_i i
        obtain ⟨hzi,di⟩:=Cm.get_of_drop e2
        have hn2:n + 1 + 1 ≤ ns.length:=(List.getElem?_eq_some_iff.mp hzi).1
        refine ⟨_,rfl,_,rfl,_,rfl,rm_Calls_take_number g hcl4 ⟨cl,dx,na,ns,n + 1,i,rfl,hcl4,ha4,hzi,?_⟩⟩
        have k5:=more (m:=n + 1 + 1) k4
        have T5:=T.read hcl k5
        rcases hm' with rfl | rfl | rfl | rfl | rfl
        · exact ⟨hd,st.held,5,i,.token i,rfl,T5.at_,.inl ⟨rfl,rfl⟩,q.tells (k:=.token i) rfl rfl k5 upd_same T5 di.symm hn2⟩
        · exact ⟨hd,st.held,6,i,.leads i,rfl,T5.at_,.inr (.inl ⟨rfl,rfl⟩),q.tells (k:=.leads i) rfl rfl k5 upd_same T5 di.symm hn2⟩
        · exact ⟨hd,st.held,7,i,.behind i,rfl,T5.at_,.inr (.inr (.inl ⟨rfl,rfl⟩)),q.tells (k:=.behind i) rfl rfl k5 upd_same T5 di.symm hn2⟩
        · exact ⟨hd,st.held,9,i,.stretch i,rfl,T5.at_,.inr (.inr (.inr (.inl ⟨rfl,rfl⟩))),q.tells (k:=.stretch i) rfl rfl k5 upd_same T5 di.symm hn2⟩
        · exact ⟨hd,st.held,10,i,.place i,rfl,T5.at_,.inr (.inr (.inr (.inr ⟨rfl,rfl⟩))),q.tells (k:=.place i) rfl rfl k5 upd_same T5 di.symm hn2⟩
      | load hrow=>obtain ⟨e1,_⟩:=List.cons.inj hl; exfalso; omega
      | edit hrow=>obtain ⟨e1,_⟩:=List.cons.inj hl; exfalso; omega
      | n0 hp=>obtain ⟨e1,_⟩:=List.cons.inj hl; exfalso; omega
      | offset=>obtain ⟨e1,_⟩:=List.cons.inj hl; exfalso; omega
      | same hrow=>obtain ⟨e1,_⟩:=List.cons.inj hl; exfalso; omega
    have nm3:¬ (z=5 ∨ z=6 ∨ z=7 ∨ z=9 ∨ z=10):=fun e=>hm3 (decide_eq_true (by simp only [List.mem_cons,List.not_mem_nil,or_false]; exact e))
    generalize hl:z :: ns.drop (n + 1)=L at h1
    cases h1 with
    | offset =>
      obtain ⟨e1,e2⟩:=List.cons.inj hl
      subst e1
      rename_i a b
      obtain ⟨hza,da⟩:=Cm.get_of_drop e2
      obtain ⟨hzb,db⟩:=Cm.get_of_drop da.symm
      have hn2:n + 1 + 1 + 1 ≤ ns.length:=(List.getElem?_eq_some_iff.mp hzb).1
      refine ⟨_,rfl,rfl,_,rfl,?_⟩
      rw [dec_yes rfl]
      refine iteT ⟨_,rfl,rm_Calls_take_number g hcl4 ⟨cl,dx,na,ns,n + 1,a,rfl,hcl4,ha4,hza,?_⟩⟩
      have k5:=more (m:=n + 1 + 1) k4
      generalize e5:upd H4 cl (.ins g.Calls.C dx (fCalls na ((n + 1 + 1:Nat):Int)))=H5 at k5
      have hcl5:H5 cl=some (.ins g.Calls.C dx (fCalls na ((n + 1 + 1:Nat):Int))):=by rw [← e5]; exact upd_same
      have ha5:ArgL K H5 na (ns.map V.int):=ha.keep fun b o u hb=>k5 _ _ hb (frz_ins hb hcl)
      have T5:=T.read hcl k5
      obtain ⟨d5,x5,b5,ho5⟩:=T5.at_.obj
      refine ⟨_,rfl,rm_Held_tell_offset g ho5 ⟨_,rfl,_,rfl,rm_Calls_take_number g hcl5 ⟨cl,dx,na,ns,n + 1 + 1,b,rfl,hcl5,ha5,hzb,?_⟩⟩⟩
      have k6:=more (m:=n + 1 + 1 + 1) k5
      have T6:=T.read hcl k6
      exact ⟨hd,st.held,a,b,rfl,T6.at_,q.tells (k:=.offset a b) rfl rfl k6 upd_same T6 db.symm hn2⟩
    | same hrow =>
      obtain ⟨e1,e2⟩:=List.cons.inj hl
      subst e1
      rename_i r row
      obtain ⟨k,ek,hk⟩:=hrow
      subst hk
      rw [← e2] at ek
      have hask2:((row.all fun (z:Int)=>VafmtaNeutral.natural z 8) && decide (row.length ≤ 8000))=true:=hask
      obtain ⟨rb,rv,rl⟩:=row_ok (Bool.and_eq_true_iff.mp hask2).1
      obtain ⟨d1,d2⟩:=drop_row ek
      refine ⟨_,rfl,rfl,_,rfl,?_⟩
      rw [dec_no (by decide)]
      refine iteF ⟨_,rfl,rfl,_,rfl,?_⟩
      rw [dec_yes rfl]
      obtain ⟨d4,x4,b4,ho4⟩:=T4.at_.obj
      refine iteT ⟨_,rfl,rm_Held_tell_same g ho4 ⟨_,rfl,rm_Calls_take_row g hcl4 ⟨cl,dx,na,ns,n + 1,row,rest,rfl,hcl4,ha4,ek,fun p H5 np k5 hp hcl5=>?_⟩⟩⟩
      rw [rv] at hp
      have k45:∀ b o,H b=some o->b ≠ cl->H5 b=some o:=fun b o hb hne=>k5 b o (k4 b o hb hne) hne
      have T5:=T.read hcl k45
      refine ⟨hd,st.held,p,VafmtaNeutral.bytes row,rfl,T5.at_,hp,q.tells (k:=.same (VafmtaNeutral.bytes row)) ?_ rfl k45 hcl5 T5 d1 d2⟩
      show (if NeutralIO.bytes row=true then some (Vafmta.Call.same (VafmtaNeutral.bytes row)) else none)=_
      rw [if_pos rb]
    | load hrow=>obtain ⟨e1,_⟩:=List.cons.inj hl; exfalso; omega
    | edit hrow=>obtain ⟨e1,_⟩:=List.cons.inj hl; exfalso; omega
    | n0 hp=>obtain ⟨e1,_⟩:=List.cons.inj hl; exfalso; omega
    | n1 hp=>obtain ⟨e1,_⟩:=List.cons.inj hl; exfalso; omega
def sp_answers (K:PySem.W.Frag):Sp:=fun vs H Q _=>∃ (a:Addr) (ns:List Int),vs=[.ref a]∧OnlyF H∧SqL K H a (ns.map V.int)∧PyVafmta.answers_asked ns=true∧∀ H' p,H' p=some (.lst ((PyVafmta.answers ns).map V.int))->Q (.ref p) H'
theorem argL_of {K:PySem.W.Frag}{H:Hp}{a:Addr}{xs:List V} (hO:OnlyF H) (h:SqL K H a xs):ArgL K H a xs:=by
  rcases h with (h | h) | h
  · exfalso
    rcases hO a with e | ⟨o,u,e⟩
    · rw [h] at e; cases e
    · rw [h] at e; cases e
  · exact .inl h
  · exact .inr h
theorem ok_answers (g:Pg K mg):FnOk P w K mg base CX0 13 g.f_answers.a g.f_answers.fd ["calls"] (sp_answers K):=by
  refine g.f_answers.F.ok sc_answers (fun vs H Q E h=>?_) (fun cdv A outer s H vs Q E hr h=>?_)
  · obtain ⟨a,ns,rfl,_⟩:=h; rfl
  · obtain ⟨na,ns,rfl,hO,hS,hask,q⟩:=h
    refine ⟨_,(pss_cons (ps_set (i:=1) sc_answers.nd rfl (Or.inl rfl) (pe_make0 g.Held.mk1 (ok_Held_init g) (hr.mono (by decide)) rfl g.Held.mg g.Held.b .nil pass0))
      (pss_cons (ps_set (i:=2) sc_answers.nd rfl (Or.inl rfl) (pe_make g.Calls.mk1 (ok_Calls_init g) (hr.mono (by decide)) rfl g.Calls.mg g.Calls.b .nil pass0 (pa_cons (pv 0) pa_nil)))
      (pss_cons (ps_set (i:=3) sc_answers.nd rfl (Or.inl rfl) (pe_lst pa_nil))
      (pss_cons (ps_while PassesOwn.never (pt_val (pe_meth0 (pv 2) g.Calls.cl g.m_Calls_more.m (ok_Calls_more g) (hr.mono (by decide)) g.m_Calls_more.b .nil pass0)) (pss_cons (ps_set (i:=4) sc_answers.nd rfl (Or.inl rfl) (pe_call (ok_answer g) (hr.mono (by decide)) rfl g.f_answer.m g.f_answer.F.kp g.f_answer.b .nil pass0 (pa_cons (pv 1) (pa_cons (pv 2) pa_nil))))
        (pss_cons (ps_expr (pe_bm PySem.F.plainAttrs_list PySem.F.slot_list_append PySem.F.type_list_append mt_append (pv 3) (pa_cons (pe_callB call_len_seq (by rfl) g.n_len PySem.boot_len (pa_cons (pv 4) pa_nil)) pa_nil)))
        (pss_one (ps_expr (pe_bm PySem.F.plainAttrs_list PySem.F.slot_list_extend PySem.F.type_list_extend mt_extend (pv 3) (pa_cons (pv 4) pa_nil)))))))
      (pss_one (ps_ret (pv 3))))))),?_⟩
    obtain ⟨cs0,hpar,hans,hlen0,hask0⟩:=MC.asked_of hask
    have ha:=argL_of hO hS
    refine mk_Held g (N:=fun _=>True) (fun _ _=>trivial) fun hd bf H1 nhd s1 T1=>?_
    refine ⟨_,rfl,?_⟩
    refine mk_Calls g fun cl H2 ncl s2 hc=>?_
    obtain ⟨dx,hcl2⟩:=hc
    refine ⟨by decide,fun l hl=>?_⟩
    have T2:=T1.same s2
    have sl:Same H2 (upd H2 l (.lst [])):=same_new hl
    have T3:HeldAt g (fun b=>b ≠ l) (upd H2 l (.lst [])) hd bf Vafmta.start:=by
      obtain ⟨d,x,bs,h1,h2,h3,h4⟩:=T2.obj
      have z:TrC (fun a=>True∧a ≠ bf) (fun a=>a ≠ l∧a ≠ bf) H2 (upd H2 l (.lst [])):=.of sl fun a xs e n=>⟨ne_of_none e hl,n.2⟩
      exact ⟨⟨d,x,bs,sl _ _ h1,h2.trC z,sl _ _ h3,h4.imp fun a k c=>c.trC z⟩,ne_of_none h3 hl,T2.few⟩
    refine ⟨fun m σ H'=>∃ (v:Option V) (bf:Addr) (n:Nat) (st:Vafmta.State) (cs:List (List (List Int))) (out:List Int),σ=[some (.ref na),some (.ref hd),some (.ref cl),some (.ref l),v]∧m=cs.length∧HeldAt g (fun b=>b ≠ l) H' hd bf st∧H' cl=some (.ins g.Calls.C dx (fCalls na (n:Int)))∧ArgL K H' na (ns.map V.int) ∧
      H' l=some (.lst (out.map V.int))∧MC.Parsed (ns.drop n) cs∧n ≤ ns.length∧(∀ c ∈ cs,VafmtaNeutral.asked1 c=true)∧cs.length ≤ 80∧out.length ≤ 100001 * (80 - cs.length)∧PyVafmta.answers ns=out ++ PyFlat.told (PyFlat.played VafmtaNeutral.step st cs),
      ⟨_,none,bf,0,Vafmta.start,cs0,[],rfl,rfl,T3,sl _ _ hcl2,?_,upd_same,hpar,Nat.zero_le _,hask0,hlen0,Nat.zero_le _,hans⟩,?_⟩
    · exact ha.keep fun b o u hb=>sl _ _ (s2 _ _ (s1 _ _ hb))
    rintro m σ H4 ⟨v,bf4,n,st,cs,out,rfl,rfl,T4,hcl4,ha4,hl4,hpar4,hn4,hask4,hlen4,hout,hans4⟩
    refine ⟨_,rfl,rm_Calls_more g hcl4 ⟨cl,dx,na,ns,n,rfl,hcl4,ha4,_,rfl,ite2 (fun h=>?_) (fun h=>?_)⟩⟩
    · have hlt:=of_decide_eq_true h
      refine ⟨_,fun _ _ z=>z,?_⟩
      generalize hL:ns.drop n=L at hpar4
      cases hpar4 with
      | nil =>
        exfalso
        have:=congrArg List.length hL
        rw [List.length_drop] at this
        simp at this
        omega
      | cons hc hrest =>
        rename_i t c cs
        subst hL
        have h1:=MC.one1_of hc
        have hN4:∀ b,H4 b=none->b ≠ l:=fun b hb e=>by rw [e,hl4] at hb; cases hb
        refine ⟨_,rfl,_,rfl,fun b=>b ≠ l,hd,bf4,cl,dx,na,ns,n,st,c,t,rfl,hN4,T4,hcl4,ha4,h1,hask4 c List.mem_cons_self,fun r bf5 H5 n5 nr k5 T5 hcl5 hd5 hn5 hr5 hrl=>?_⟩
        obtain ⟨d4,x4,b4,ho4,_,hbf4,_⟩:=T4.obj
        have l_hd:l ≠ hd:=Ne.symm (ins_lst ho4 hl4)
        have l_cl:l ≠ cl:=Ne.symm (ins_lst hcl4 hl4)
        have hl5:=k5 _ _ hl4 l_hd (Ne.symm T4.nb) l_cl
        rw [List.length_cons] at hlen4 hout
        have hol:out.length ≤ 8000080:=by omega
        refine ⟨_,rfl,.inl ⟨rfl,_,SqL.of hl5⟩,_,rfl,_,_,rfl,.inl (SqL.of hr5),l,_,_,rfl,rfl,hl5,lim1 (k:=8000080) (by rw [List.length_map]; exact hol),?_⟩
        generalize e6:upd H5 l (.lst (out.map V.int ++ [.int (((VafmtaNeutral.step st c).2.map V.int).length:Int)]))=H6
        have hl6:H6 l=some (.lst (out.map V.int ++ [.int (((VafmtaNeutral.step st c).2.map V.int).length:Int)])):=by rw [← e6]; exact upd_same
        have r_l:r ≠ l:=fun e=>by
          rcases nr _ (by rw [e]; exact hl4) with e2 | e2 | e2
          · exact l_hd (e.symm.trans e2)
          · exact T4.nb (e2.symm.trans e)
          · exact l_cl (e.symm.trans e2)
        have k6:∀ b o,H5 b=some o->b ≠ l->H6 b=some o:=fun b o hb hne=>by rw [← e6,upd_ne hne]; exact hb
        have hr6:=k6 _ _ hr5 r_l
        refine ⟨_,rfl,.inl ⟨rfl,_,SqL.of hl6⟩,_,rfl,l,r,_,_,rfl,rfl,hl6,hr6,lim (k:=16000000) (by rw [List.length_append,List.length_map,List.length_map]; show out.length + 1 + _ ≤ _; omega),?_⟩
        have ha4':ArgL K H5 na (ns.map V.int):=ha4.keep fun b o u hb=>k5 _ _ hb (frz_ins hb ho4) (frz_lst hb hbf4) (frz_ins hb hcl4)
        generalize e7:upd H6 l (.lst (out.map V.int ++ [.int (((VafmtaNeutral.step st c).2.map V.int).length:Int)] ++ (VafmtaNeutral.step st c).2.map V.int))=H7
        have k7:∀ b o,H5 b=some o->b ≠ l->H7 b=some o:=fun b o hb hne=>by rw [← e7,upd_ne hne]; exact k6 b o hb hne
        refine ⟨cs.length,by rw [List.length_cons]; exact Nat.lt_succ_self _,_,bf5,n5,(VafmtaNeutral.step st c).1,cs,out ++ (((VafmtaNeutral.step st c).2.length:Int) :: (VafmtaNeutral.step st c).2),rfl,rfl,T5.keep fun b o hb _ hl=>k7 b o hb fun e=>?_,k7 _ _ hcl5 (ins_lst hcl5 hl5),ha4'.keep fun b o u hb=>k7 _ _ hb (frz_lst hb hl5),?_,by rw [hd5]; exact hrest,hn5,fun c' hc'=>hask4 c' (List.mem_cons_of_mem _ hc'),by omega,?_,?_⟩
        · rw [e,hl5] at hb
          exact hl _ (Option.some.inj hb).symm e
        · rw [← e7,upd_same,List.map_append,List.map_cons,List.length_map,List.append_assoc]
          rfl
        · rw [List.length_append,List.length_cons]
          omega
        · rw [hans4,List.append_assoc]
          rfl
    · have hlt:¬ n < ns.length:=fun z=>h (decide_eq_true z)
      rw [List.drop_eq_nil_of_le (by omega)] at hpar4
      cases hpar4 with
      | nil =>
        rw [show PyFlat.told (PyFlat.played VafmtaNeutral.step st [])=[] from rfl,List.append_nil] at hans4
        refine ⟨_,rfl,q H4 l ?_⟩
        rw [hans4]
        exact hl4
      | cons hc hrest=>cases hc
end
end Cb
end
set_option maxRecDepth 100000
set_option maxHeartbeats 4000000
namespace Cb
open PySem PySem.Spec PyProof.Rows L2
section
variable {K:PySem.W.Frag}{mg:Str->Option Value}{h:Heap}
theorem g_int (X:K.In h) (G:h.Ns mainGlobals mg) {n:Str}{i:Int}{t:Tok} (e:PySem.W.nsIn K mainGlobals n=some (some (.int i t))):∃ t,mg n=some (.int i t):=⟨t,PySem.W.mg_of X G e⟩
structure FnP (K:PySem.W.Frag) (mg:Str->Option Value) (x:Str) (st:Stmt) (ps:List Str) (a:Addr) (fd:FuncData):Prop where
  F:Fun K x x st a fd
  m:mg x=some (.ref a)
  b:Binds K fd ps []
def FnP.toI {x:Str}{st:Stmt}{ps:List Str}{a:Addr}{fd:FuncData} (p:FnP K mg x st ps a fd):FnI K mg x st ps:=⟨a,fd,p.F,p.m,p.b⟩
structure MeP (K:PySem.W.Frag) (C:Addr) (x qual:Str) (st:Stmt) (ps:List Str) (a:Addr) (fd:FuncData):Prop where
  F:Fun K x qual st a fd
  m:Meth K C x a
  b:Binds K fd ps []
def MeP.toI {C:Addr}{x qual:Str}{st:Stmt}{ps:List Str}{a:Addr}{fd:FuncData} (p:MeP K C x qual st ps a fd):MeI K C x qual st ps:=⟨a,fd,p.F,p.m,p.b⟩
structure ClP (K:PySem.W.Frag) (mg:Str->Option Value) (x qual:Str) (st:Stmt) (ps fs:List Str) (C a:Addr) (fd:FuncData):Prop where
  cl:Cls K C
  mg:mg x=some (.ref C)
  na:∀ f,f ∈ fs->NoAttr K C f
  F:Fun K "__init__" qual st a fd
  mk1:Mk K C a
  b:Binds K fd ps []
def ClP.toI {x qual:Str}{st:Stmt}{ps fs:List Str}{C a:Addr}{fd:FuncData} (p:ClP K mg x qual st ps fs C a fd):ClI K mg x qual st ps fs:=⟨C,p.cl,p.mg,p.na,a,fd,p.F,p.mk1,p.b⟩
abbrev BdOf (x qual:Str) (st:Stmt) (ps:List Str):Prop:=∀ (kV doc pm:Value) (an:Option Addr) (cdv ct:Value) (us:List Value),us.length=ps.length->bindArgs (PySem.W.fnOf x qual (defArgs st) (defBody st) (defScope st) .none kV doc pm an cdv ct) ⟨us,[]⟩=pure (ps.zip us)
theorem fn_p {x:Str}{st:Stmt}{ps:List Str} (hb:BdOf x x st ps) (X:K.In h) (G:h.Ns mainGlobals mg) {f:Addr}{oc:Value}{od an:Option Addr}{osl:Array (Option Value)}{kV doc pm cdv ct:Value}
    (a:PySem.W.nsIn K mainGlobals x=some (some (.ref f))) (l:K.lookup f=some ⟨oc,od,.func (PySem.W.fnOf x x (defArgs st) (defBody st) (defScope st) .none kV doc pm an cdv ct),osl⟩) (c:PySem.W.codeIn K cdv x=true) (k:PySem.W.keepIn K (.ref f)=true) :
    FnP K mg x st ps f (PySem.W.fnOf x x (defArgs st) (defBody st) (defScope st) .none kV doc pm an cdv ct):=⟨fun_mk l c k,PySem.W.mg_of X G a,(fun_mk l c k).binds hb⟩
theorem me_p {x qual:Str}{st:Stmt}{ps:List Str} (hb:BdOf x qual st ps) {C:Addr}{x' q':Str}{st':Stmt}{ps' fs':List Str}{a':Addr}{fd':FuncData} (_:ClP K mg x' q' st' ps' fs' C a' fd') {f:Addr}{oc:Value}{od an:Option Addr}{osl:Array (Option Value)}{kV doc pm cdv ct:Value}
    (a:PySem.W.findIn K (.ref C) x=some (some (.ref f))) (i:PySem.W.isFn K (.ref f)=true) (l:K.lookup f=some ⟨oc,od,.func (PySem.W.fnOf x qual (defArgs st) (defBody st) (defScope st) .none kV doc pm an cdv ct),osl⟩) (c:PySem.W.codeIn K cdv qual=true) (k:PySem.W.keepIn K (.ref f)=true) :
    MeP K C x qual st ps f (PySem.W.fnOf x qual (defArgs st) (defBody st) (defScope st) .none kV doc pm an cdv ct):=⟨fun_mk l c k,⟨a,i,k⟩,(fun_mk l c k).binds hb⟩
inductive NA (K:PySem.W.Frag) (C:Addr):List Str->Prop
  | nil:NA K C []
  | cons {f:Str}{fs:List Str}:PySem.W.findIn K (.ref C) f=some none->NA K C fs->NA K C (f :: fs)
theorem NA.all {C:Addr}:∀ {fs:List Str},NA K C fs->∀ f,f ∈ fs->NoAttr K C f
  | _,.nil,_,h=>nomatch h
  | _,.cons e r,f,h=>by
    rcases List.mem_cons.mp h with rfl | h
    · exact e
    · exact r.all f h
theorem cl_p {x qual:Str}{st:Stmt}{ps fs:List Str} (hb:BdOf "__init__" qual st ps) (X:K.In h) (G:h.Ns mainGlobals mg) {C f:Addr}{oc:Value}{od an:Option Addr}{osl:Array (Option Value)}{kV doc pm cdv ct:Value}
    (aC:PySem.W.nsIn K mainGlobals x=some (some (.ref C))) (a:PySem.W.findIn K (.ref C) "__init__" = some (some (.ref f))) (i:PySem.W.isFn K (.ref f)=true) (l:K.lookup f=some ⟨oc,od,.func (PySem.W.fnOf "__init__" qual (defArgs st) (defBody st) (defScope st) .none kV doc pm an cdv ct),osl⟩) (c:PySem.W.codeIn K cdv qual=true) (k:PySem.W.keepIn K (.ref f)=true)
    (pg:PySem.W.plainGet K C Str.empty=true) (hd:PySem.W.hasDictIn K C=true) (po:PySem.W.plainOver K C=true) (sa:PySem.W.findIn K (.ref C) "__setattr__" = some (some (.builtin "object.__setattr__"))) (mk:PySem.W.makesIn K C=true) (kc:PySem.W.keepIn K (.ref C)=true) (na:NA K C fs) :
    ClP K mg x qual st ps fs C f (PySem.W.fnOf "__init__" qual (defArgs st) (defBody st) (defScope st) .none kV doc pm an cdv ct):=⟨⟨pg,hd,po,sa⟩,PySem.W.mg_of X G aC,na.all,fun_mk l c k,⟨mk,a,i,kc⟩,(fun_mk l c k).binds hb⟩
theorem rel_abs {x:V}{u:Value} (e:absV u=some x):RelV x u:=by
  cases u <;> first | (cases e; rfl) | (cases e; exact ⟨_,rfl⟩) | cases e
theorem vals_abs : ∀ {xs:List V}{us:List Value},us.map absV=xs.map some->Vals xs us
  | [],[],_=>.nil
  | [],_ :: _,e=>nomatch e
  | _ :: _,[],e=>nomatch e
  | x :: xs,u :: us,e=>by
    rw [List.map_cons,List.map_cons] at e
    injection e with e1 e2
    exact .cons (rel_abs e1) (vals_abs e2)
theorem tup_p {a:Addr}{d:Option Addr}{its:List Value}{n:Nat}{sl:Array (Option Value)}{xs:List V} (l:K.lookup a=some ⟨.type "tuple",d,.seq its.toArray n,sl⟩) (hz:its.length ≤ sizeLine) (e:its.map absV=xs.map some):∀ H:Hp,SqT K H a xs :=
  fun H=>.inr ⟨_,_,_,l,rfl,rfl,hz,by show Vals xs its; exact vals_abs e⟩
structure TuP (K:PySem.W.Frag) (mg:Str->Option Value) (x:Str) (xs:List V) (a:Addr):Prop where
  m:mg x=some (.ref a)
  s:∀ H:Hp,SqT K H a xs
def TuP.toI {x:Str}{xs:List V}{a:Addr} (p:TuP K mg x xs a):TuI K mg x xs:=⟨a,p.m,p.s⟩
theorem tu_p {x:Str}{xs:List V} (X:K.In h) (G:h.Ns mainGlobals mg) {a:Addr}{d:Option Addr}{its:List Value}{n:Nat}{sl:Array (Option Value)} (m:PySem.W.nsIn K mainGlobals x=some (some (.ref a))) (l:K.lookup a=some ⟨.type "tuple",d,.seq its.toArray n,sl⟩) (hz:its.length ≤ sizeLine) (e:its.map absV=xs.map some):TuP K mg x xs a:=⟨PySem.W.mg_of X G m,tup_p l hz e⟩
structure TupP (K:PySem.W.Frag) (mg:Str->Option Value) (x:Str) (xs:List (List V)) (a:Addr) (as:List Addr):Prop where
  m:mg x=some (.ref a)
  s:∀ H:Hp,SqT K H a (as.map V.ref)
  p:∀ H:Hp,Paired (fun b ys=>SqT K H b ys) as xs
def TupP.toI {x:Str}{xs:List (List V)}{a:Addr}{as:List Addr} (p:TupP K mg x xs a as):TupI K mg x xs:=⟨a,p.m,as,p.s,p.p⟩
theorem pair_p {b:Addr}{d:Option Addr}{i j:Int}{t u:Tok}{n:Nat}{sl:Array (Option Value)} (l:K.lookup b=some ⟨.type "tuple",d,.seq [Value.int i t,.int j u].toArray n,sl⟩):∀ H:Hp,SqT K H b [.int i,.int j]:=tup_p l (by show 2 ≤ sizeLine; decide) rfl
theorem tups_nil : ∀ H:Hp,Paired (fun b ys=>SqT K H b ys) [] []:=fun _=>.nil
theorem tups_cons {b:Addr}{as:List Addr}{ys:List V}{xs:List (List V)} (h:∀ H:Hp,SqT K H b ys) (r:∀ H:Hp,Paired (fun b ys=>SqT K H b ys) as xs):∀ H:Hp,Paired (fun b ys=>SqT K H b ys) (b :: as) (ys :: xs):=fun H=>.cons (h H) (r H)
theorem refs_abs : ∀ as:List Addr,(as.map Value.ref).map absV=(as.map V.ref).map some
  | []=>rfl
  | a :: as=>by
    rw [List.map_cons,List.map_cons,refs_abs as]
    rfl
theorem tups_p {x:Str} (X:K.In h) (G:h.Ns mainGlobals mg) {a b1 b2 b3 b4 b5 b6 b7:Addr}{d:Option Addr}{n:Nat}{sl:Array (Option Value)}{xs:List (List V)} (m:PySem.W.nsIn K mainGlobals x=some (some (.ref a))) (l:K.lookup a=some ⟨.type "tuple",d,.seq [Value.ref b1,.ref b2,.ref b3,.ref b4,.ref b5,.ref b6,.ref b7].toArray n,sl⟩)
    (p:∀ H:Hp,Paired (fun b ys=>SqT K H b ys) [b1,b2,b3,b4,b5,b6,b7] xs):TupP K mg x xs a [b1,b2,b3,b4,b5,b6,b7]:=⟨PySem.W.mg_of X G m,tup_p l (by show 7 ≤ sizeLine; decide) rfl,p⟩
end
theorem us1 {fd:FuncData}{ps:List Str} (h:∀ a,bindArgs fd ⟨[a],[]⟩=pure (ps.zip [a])) (us:List Value) (hl:us.length=1):bindArgs fd ⟨us,[]⟩=pure (ps.zip us):=match us,hl with | [a],_=>h a
theorem us2 {fd:FuncData}{ps:List Str} (h:∀ a b,bindArgs fd ⟨[a,b],[]⟩=pure (ps.zip [a,b])) (us:List Value) (hl:us.length=2):bindArgs fd ⟨us,[]⟩=pure (ps.zip us):=match us,hl with | [a,b],_=>h a b
theorem us3 {fd:FuncData}{ps:List Str} (h:∀ a b c,bindArgs fd ⟨[a,b,c],[]⟩=pure (ps.zip [a,b,c])) (us:List Value) (hl:us.length=3):bindArgs fd ⟨us,[]⟩=pure (ps.zip us):=match us,hl with | [a,b,c],_=>h a b c
theorem us4 {fd:FuncData}{ps:List Str} (h:∀ a b c d,bindArgs fd ⟨[a,b,c,d],[]⟩=pure (ps.zip [a,b,c,d])) (us:List Value) (hl:us.length=4):bindArgs fd ⟨us,[]⟩=pure (ps.zip us):=match us,hl with | [a,b,c,d],_=>h a b c d
theorem us5 {fd:FuncData}{ps:List Str} (h:∀ a b c d e,bindArgs fd ⟨[a,b,c,d,e],[]⟩=pure (ps.zip [a,b,c,d,e])) (us:List Value) (hl:us.length=5):bindArgs fd ⟨us,[]⟩=pure (ps.zip us):=match us,hl with | [a,b,c,d,e],_=>h a b c d e
theorem us6 {fd:FuncData}{ps:List Str} (h:∀ a b c d e f,bindArgs fd ⟨[a,b,c,d,e,f],[]⟩=pure (ps.zip [a,b,c,d,e,f])) (us:List Value) (hl:us.length=6):bindArgs fd ⟨us,[]⟩=pure (ps.zip us):=match us,hl with | [a,b,c,d,e,f],_=>h a b c d e f
theorem bs_Piece_init : BdOf "__init__" "Piece.__init__" s_Piece_init ["self","kind","size"]:=fun _ _ _ _ _ _ us hl=>us3 (fun _ _ _=>rfl) us hl
theorem bs_Cutter_init : BdOf "__init__" "Cutter.__init__" s_Cutter_init ["self","text"]:=fun _ _ _ _ _ _ us hl=>us2 (fun _ _=>rfl) us hl
theorem bs_Written_init : BdOf "__init__" "Written.__init__" s_Written_init ["self"]:=fun _ _ _ _ _ _ us hl=>us1 (fun _=>rfl) us hl
theorem bs_Stretch_init : BdOf "__init__" "Stretch.__init__" s_Stretch_init ["self","pieces","closed"]:=fun _ _ _ _ _ _ us hl=>us3 (fun _ _ _=>rfl) us hl
theorem bs_Cut_init : BdOf "__init__" "Cut.__init__" s_Cut_init ["self","text","stretches","fresh"]:=fun _ _ _ _ _ _ us hl=>us4 (fun _ _ _ _=>rfl) us hl
theorem bs_Comment_init : BdOf "__init__" "Comment.__init__" s_Comment_init ["self","row","gap"]:=fun _ _ _ _ _ _ us hl=>us3 (fun _ _ _=>rfl) us hl
theorem bs_Token_init : BdOf "__init__" "Token.__init__" s_Token_init ["self","kind","begin","row","gap","leading"]:=fun _ _ _ _ _ _ us hl=>us6 (fun _ _ _ _ _ _=>rfl) us hl
theorem bs_Things_init : BdOf "__init__" "Things.__init__" s_Things_init ["self"]:=fun _ _ _ _ _ _ us hl=>us1 (fun _=>rfl) us hl
theorem bs_Held_init : BdOf "__init__" "Held.__init__" s_Held_init ["self"]:=fun _ _ _ _ _ _ us hl=>us1 (fun _=>rfl) us hl
theorem bs_Calls_init : BdOf "__init__" "Calls.__init__" s_Calls_init ["self","numbers"]:=fun _ _ _ _ _ _ us hl=>us2 (fun _ _=>rfl) us hl
theorem bs_Cutter_piece_at : BdOf "piece_at" "Cutter.piece_at" s_Cutter_piece_at ["self","place"]:=fun _ _ _ _ _ _ us hl=>us2 (fun _ _=>rfl) us hl
theorem bs_Cutter_quoted_or_odd : BdOf "quoted_or_odd" "Cutter.quoted_or_odd" s_Cutter_quoted_or_odd ["self","place"]:=fun _ _ _ _ _ _ us hl=>us2 (fun _ _=>rfl) us hl
theorem bs_Cutter_closing_quote : BdOf "closing_quote" "Cutter.closing_quote" s_Cutter_closing_quote ["self","place"]:=fun _ _ _ _ _ _ us hl=>us2 (fun _ _=>rfl) us hl
theorem bs_Written_put : BdOf "put" "Written.put" s_Written_put ["self","token"]:=fun _ _ _ _ _ _ us hl=>us2 (fun _ _=>rfl) us hl
theorem bs_Written_fits : BdOf "fits" "Written.fits" s_Written_fits ["self","between","token"]:=fun _ _ _ _ _ _ us hl=>us3 (fun _ _ _=>rfl) us hl
theorem bs_Written_first_unsure : BdOf "first_unsure" "Written.first_unsure" s_Written_first_unsure ["self","token"]:=fun _ _ _ _ _ _ us hl=>us2 (fun _ _=>rfl) us hl
theorem bs_Written_write : BdOf "write" "Written.write" s_Written_write ["self","between","token"]:=fun _ _ _ _ _ _ us hl=>us3 (fun _ _ _=>rfl) us hl
theorem bs_Things_take : BdOf "take" "Things.take" s_Things_take ["self","piece","text","place"]:=fun _ _ _ _ _ _ us hl=>us4 (fun _ _ _ _=>rfl) us hl
theorem bs_Things_gap_here : BdOf "gap_here" "Things.gap_here" s_Things_gap_here ["self"]:=fun _ _ _ _ _ _ us hl=>us1 (fun _=>rfl) us hl
theorem bs_Things_take_comment : BdOf "take_comment" "Things.take_comment" s_Things_take_comment ["self","comment"]:=fun _ _ _ _ _ _ us hl=>us2 (fun _ _=>rfl) us hl
theorem bs_Things_take_token : BdOf "take_token" "Things.take_token" s_Things_take_token ["self","token"]:=fun _ _ _ _ _ _ us hl=>us2 (fun _ _=>rfl) us hl
theorem bs_Things_go_on : BdOf "go_on" "Things.go_on" s_Things_go_on ["self"]:=fun _ _ _ _ _ _ us hl=>us1 (fun _=>rfl) us hl
theorem bs_Held_load : BdOf "load" "Held.load" s_Held_load ["self","row"]:=fun _ _ _ _ _ _ us hl=>us2 (fun _ _=>rfl) us hl
theorem bs_Held_edit : BdOf "edit" "Held.edit" s_Held_edit ["self","a","b","row"]:=fun _ _ _ _ _ _ us hl=>us4 (fun _ _ _ _=>rfl) us hl
theorem bs_Held_undo : BdOf "undo" "Held.undo" s_Held_undo ["self"]:=fun _ _ _ _ _ _ us hl=>us1 (fun _=>rfl) us hl
theorem bs_Held_tell_text : BdOf "tell_text" "Held.tell_text" s_Held_tell_text ["self"]:=fun _ _ _ _ _ _ us hl=>us1 (fun _=>rfl) us hl
theorem bs_Held_tell_tokens : BdOf "tell_tokens" "Held.tell_tokens" s_Held_tell_tokens ["self"]:=fun _ _ _ _ _ _ us hl=>us1 (fun _=>rfl) us hl
theorem bs_Held_tell_token : BdOf "tell_token" "Held.tell_token" s_Held_tell_token ["self","i"]:=fun _ _ _ _ _ _ us hl=>us2 (fun _ _=>rfl) us hl
theorem bs_Held_tell_leads : BdOf "tell_leads" "Held.tell_leads" s_Held_tell_leads ["self","i"]:=fun _ _ _ _ _ _ us hl=>us2 (fun _ _=>rfl) us hl
theorem bs_Held_tell_behind : BdOf "tell_behind" "Held.tell_behind" s_Held_tell_behind ["self","i"]:=fun _ _ _ _ _ _ us hl=>us2 (fun _ _=>rfl) us hl
theorem bs_Held_tell_stretches : BdOf "tell_stretches" "Held.tell_stretches" s_Held_tell_stretches ["self"]:=fun _ _ _ _ _ _ us hl=>us1 (fun _=>rfl) us hl
theorem bs_Held_tell_stretch : BdOf "tell_stretch" "Held.tell_stretch" s_Held_tell_stretch ["self","k"]:=fun _ _ _ _ _ _ us hl=>us2 (fun _ _=>rfl) us hl
theorem bs_Held_tell_place : BdOf "tell_place" "Held.tell_place" s_Held_tell_place ["self","n"]:=fun _ _ _ _ _ _ us hl=>us2 (fun _ _=>rfl) us hl
theorem bs_Held_tell_offset : BdOf "tell_offset" "Held.tell_offset" s_Held_tell_offset ["self","line","column"]:=fun _ _ _ _ _ _ us hl=>us3 (fun _ _ _=>rfl) us hl
theorem bs_Held_tell_same : BdOf "tell_same" "Held.tell_same" s_Held_tell_same ["self","row"]:=fun _ _ _ _ _ _ us hl=>us2 (fun _ _=>rfl) us hl
theorem bs_Held_tell_spaced : BdOf "tell_spaced" "Held.tell_spaced" s_Held_tell_spaced ["self"]:=fun _ _ _ _ _ _ us hl=>us1 (fun _=>rfl) us hl
theorem bs_Calls_more : BdOf "more" "Calls.more" s_Calls_more ["self"]:=fun _ _ _ _ _ _ us hl=>us1 (fun _=>rfl) us hl
theorem bs_Calls_take_number : BdOf "take_number" "Calls.take_number" s_Calls_take_number ["self"]:=fun _ _ _ _ _ _ us hl=>us1 (fun _=>rfl) us hl
theorem bs_Calls_take_row : BdOf "take_row" "Calls.take_row" s_Calls_take_row ["self"]:=fun _ _ _ _ _ _ us hl=>us1 (fun _=>rfl) us hl
theorem bs_is_token : BdOf "is_token" "is_token" s_is_token ["kind"]:=fun _ _ _ _ _ _ us hl=>us1 (fun _=>rfl) us hl
theorem bs_is_letter : BdOf "is_letter" "is_letter" s_is_letter ["byte"]:=fun _ _ _ _ _ _ us hl=>us1 (fun _=>rfl) us hl
theorem bs_is_digit : BdOf "is_digit" "is_digit" s_is_digit ["byte"]:=fun _ _ _ _ _ _ us hl=>us1 (fun _=>rfl) us hl
theorem bs_goes_on : BdOf "goes_on" "goes_on" s_goes_on ["text","place"]:=fun _ _ _ _ _ _ us hl=>us2 (fun _ _=>rfl) us hl
theorem bs_step_within_quotes : BdOf "step_within_quotes" "step_within_quotes" s_step_within_quotes ["text","place"]:=fun _ _ _ _ _ _ us hl=>us2 (fun _ _=>rfl) us hl
theorem bs_rest_end : BdOf "rest_end" "rest_end" s_rest_end ["text","place"]:=fun _ _ _ _ _ _ us hl=>us2 (fun _ _=>rfl) us hl
theorem bs_word_end : BdOf "word_end" "word_end" s_word_end ["text","place"]:=fun _ _ _ _ _ _ us hl=>us2 (fun _ _=>rfl) us hl
theorem bs_digits_end : BdOf "digits_end" "digits_end" s_digits_end ["text","place"]:=fun _ _ _ _ _ _ us hl=>us2 (fun _ _=>rfl) us hl
theorem bs_number_end : BdOf "number_end" "number_end" s_number_end ["text","place"]:=fun _ _ _ _ _ _ us hl=>us2 (fun _ _=>rfl) us hl
theorem bs_sign_or_odd : BdOf "sign_or_odd" "sign_or_odd" s_sign_or_odd ["text","place"]:=fun _ _ _ _ _ _ us hl=>us2 (fun _ _=>rfl) us hl
theorem bs_tokens_in : BdOf "tokens_in" "tokens_in" s_tokens_in ["text"]:=fun _ _ _ _ _ _ us hl=>us1 (fun _=>rfl) us hl
theorem bs_written_closely : BdOf "written_closely" "written_closely" s_written_closely ["pairs"]:=fun _ _ _ _ _ _ us hl=>us1 (fun _=>rfl) us hl
theorem bs_line_begin : BdOf "line_begin" "line_begin" s_line_begin ["text","place"]:=fun _ _ _ _ _ _ us hl=>us2 (fun _ _=>rfl) us hl
theorem bs_line_begins : BdOf "line_begins" "line_begins" s_line_begins ["text"]:=fun _ _ _ _ _ _ us hl=>us1 (fun _=>rfl) us hl
theorem bs_line_and_column : BdOf "line_and_column" "line_and_column" s_line_and_column ["text","place"]:=fun _ _ _ _ _ _ us hl=>us2 (fun _ _=>rfl) us hl
theorem bs_place_at : BdOf "place_at" "place_at" s_place_at ["text","line","column"]:=fun _ _ _ _ _ _ us hl=>us3 (fun _ _ _=>rfl) us hl
theorem bs_first_difference : BdOf "first_difference" "first_difference" s_first_difference ["some","others"]:=fun _ _ _ _ _ _ us hl=>us2 (fun _ _=>rfl) us hl
theorem bs_what_counts : BdOf "what_counts" "what_counts" s_what_counts ["token"]:=fun _ _ _ _ _ _ us hl=>us1 (fun _=>rfl) us hl
theorem bs_rows_of : BdOf "rows_of" "rows_of" s_rows_of ["comments"]:=fun _ _ _ _ _ _ us hl=>us1 (fun _=>rfl) us hl
theorem bs_cut_whole : BdOf "cut_whole" "cut_whole" s_cut_whole ["text"]:=fun _ _ _ _ _ _ us hl=>us1 (fun _=>rfl) us hl
theorem bs_cut_anew : BdOf "cut_anew" "cut_anew" s_cut_anew ["cut","a","b","row"]:=fun _ _ _ _ _ _ us hl=>us4 (fun _ _ _ _=>rfl) us hl
theorem bs_kept_stretches : BdOf "kept_stretches" "kept_stretches" s_kept_stretches ["cut","a"]:=fun _ _ _ _ _ _ us hl=>us2 (fun _ _=>rfl) us hl
theorem bs_known_ends : BdOf "known_ends" "known_ends" s_known_ends ["cut","b","longer"]:=fun _ _ _ _ _ _ us hl=>us3 (fun _ _ _=>rfl) us hl
theorem bs_cut_from : BdOf "cut_from" "cut_from" s_cut_from ["text","place","known"]:=fun _ _ _ _ _ _ us hl=>us3 (fun _ _ _=>rfl) us hl
theorem bs_cut_stretch : BdOf "cut_stretch" "cut_stretch" s_cut_stretch ["cutter","place"]:=fun _ _ _ _ _ _ us hl=>us2 (fun _ _=>rfl) us hl
theorem bs_comment_behind : BdOf "comment_behind" "comment_behind" s_comment_behind ["cutter","place"]:=fun _ _ _ _ _ _ us hl=>us2 (fun _ _=>rfl) us hl
theorem bs_total_size : BdOf "total_size" "total_size" s_total_size ["stretches"]:=fun _ _ _ _ _ _ us hl=>us1 (fun _=>rfl) us hl
theorem bs_ends_of : BdOf "ends_of" "ends_of" s_ends_of ["stretches"]:=fun _ _ _ _ _ _ us hl=>us1 (fun _=>rfl) us hl
theorem bs_token_count : BdOf "token_count" "token_count" s_token_count ["stretches"]:=fun _ _ _ _ _ _ us hl=>us1 (fun _=>rfl) us hl
theorem bs_kind_and_number : BdOf "kind_and_number" "kind_and_number" s_kind_and_number ["cut","place"]:=fun _ _ _ _ _ _ us hl=>us2 (fun _ _=>rfl) us hl
theorem bs_things_of : BdOf "things_of" "things_of" s_things_of ["cut"]:=fun _ _ _ _ _ _ us hl=>us1 (fun _=>rfl) us hl
theorem bs_without_last_blanks : BdOf "without_last_blanks" "without_last_blanks" s_without_last_blanks ["row"]:=fun _ _ _ _ _ _ us hl=>us1 (fun _=>rfl) us hl
theorem bs_counted : BdOf "counted" "counted" s_counted ["row"]:=fun _ _ _ _ _ _ us hl=>us1 (fun _=>rfl) us hl
theorem bs_change : BdOf "change" "change" s_change ["held","number","calls"]:=fun _ _ _ _ _ _ us hl=>us3 (fun _ _ _=>rfl) us hl
theorem bs_tell_of_all : BdOf "tell_of_all" "tell_of_all" s_tell_of_all ["held","number"]:=fun _ _ _ _ _ _ us hl=>us2 (fun _ _=>rfl) us hl
theorem bs_tell_of_one : BdOf "tell_of_one" "tell_of_one" s_tell_of_one ["held","number","which"]:=fun _ _ _ _ _ _ us hl=>us3 (fun _ _ _=>rfl) us hl
theorem bs_answer : BdOf "answer" "answer" s_answer ["held","calls"]:=fun _ _ _ _ _ _ us hl=>us2 (fun _ _=>rfl) us hl
theorem bs_answers : BdOf "answers" "answers" s_answers ["calls"]:=fun _ _ _ _ _ _ us hl=>us1 (fun _=>rfl) us hl
theorem all_of {P:Program}{w:World}{K:PySem.W.Frag}{mg:Str->Option Value}{fa:Addr} (g:Pg K mg) (hfa:mg "answers" = some (.ref fa)) :
    ∃ fd:FuncData,(∀ (s:Shared) (us:List Value),us.length=(["calls"]:List Str).length->BindsTo s fd ⟨us,[]⟩ ((["calls"]:List Str).zip us))∧∀ base:Heap,K.In base->base.Ns mainGlobals mg->FnOk P w K mg base CX0 13 fa fd ["calls"] (sp_answers K):=by
  have e:=hfa.symm.trans g.f_answers.m
  injection e with e
  injection e with e
  subst e
  refine ⟨g.f_answers.fd,fun s us hu=>?_,fun base _ _=>ok_answers g⟩
  obtain ⟨oc,od,kV,doc,pm,an,cdv,ct,osl,e,_,_⟩:=g.f_answers.F.ex
  rw [e]
  exact .of_eq (bs_answers kV doc pm an cdv ct us hu)
end Cb
namespace PySem.W.Fast
def tw15645720993795056500 : Nat:=0
def tw7796217775902096201 : Nat:=0
def tw5606442877948672785 : Nat:=0
def tw13944611265567332144 : Nat:=0
def tw9115453055756635911 : Nat:=0
def tw11742195305433931261 : Nat:=0
def tw6222842719671487048 : Nat:=0
def tw5451255819511380065 : Nat:=0
def tw11149814219341307097 : Nat:=0
def tw8725342700938722598 : Nat:=0
def tw9043546065070342498 : Nat:=0
def tw17105782488091169245 : Nat:=0
def tw12443591315197024325 : Nat:=0
def tw12006476494947387242 : Nat:=0
def tw1510978150488328907 : Nat:=0
def tw7638334541582684875 : Nat:=0
def tw9771797490862826791 : Nat:=0
def tw3602115701431458358 : Nat:=0
def tw15007850030832187664 : Nat:=0
def tw4683145843703588124 : Nat:=0
def tw6369506120602157306 : Nat:=0
def tw8902914686784900809 : Nat:=0
def tw11176842988200872481 : Nat:=0
def tw3336579671226252477 : Nat:=0
def tw9834261398229143185 : Nat:=0
def tw16861690097451057351 : Nat:=0
def tw15969658932860418306 : Nat:=0
def tw13738562692729148086 : Nat:=0
def tw18014761623850578093 : Nat:=0
def tw3944921102679023868 : Nat:=0
def tw5856547268962462581 : Nat:=0
def tw10370876058638177207 : Nat:=0
def tw7967035361486522502 : Nat:=0
def tw5412867412614961825 : Nat:=0
def tw1283539072149789531 : Nat:=0
def tw1968070046648429910 : Nat:=0
def tw3622158211908418508 : Nat:=0
def tw12343399229567890392 : Nat:=0
def tw16472489118230604667 : Nat:=0
def tw13901059896631736066 : Nat:=0
def tw6937841985917010345 : Nat:=0
def tw17555446094118398455 : Nat:=0
def tw1481328805129254229 : Nat:=0
def tw16049834131471472237 : Nat:=0
def tw14504786276712278750 : Nat:=0
def tw6035217104075459127 : Nat:=0
def tw4113667191153365036 : Nat:=0
def tw11651286414023351248 : Nat:=0
def tw17344752969078427458 : Nat:=0
def tw17364360434145376117 : Nat:=0
def tw2561597626015958525 : Nat:=0
def tw16624864355164037487 : Nat:=0
def tw9561300291564741795 : Nat:=0
def tw12360590113769659602 : Nat:=0
def tw6043513354055356563 : Nat:=0
def tw2075135701331784467 : Nat:=0
def tw2862071609116541000 : Nat:=0
def tw3562410394388470540 : Nat:=0
def tw14999013259367658991 : Nat:=0
def tw11718940122796001534 : Nat:=0
def tw9153832061078747402 : Nat:=0
def tw2269571121497437393 : Nat:=0
def tw2198286242004468506 : Nat:=0
def tw15137843615468867362 : Nat:=0
def tw3718857816776427396 : Nat:=0
def tw10455479665750405704 : Nat:=0
def tw17045881782665478453 : Nat:=0
def tw2719562844699278568 : Nat:=0
def tw15436099049608554543 : Nat:=0
def tw13447649176957413172 : Nat:=0
def tw18047479143834871392 : Nat:=0
def tw12558475410196800171 : Nat:=0
def tw8437328540300708183 : Nat:=0
def tw17345471126060481171 : Nat:=0
def tw2975571338119609806 : Nat:=0
def tw3949965059324927165 : Nat:=0
def tw2387104090006718584 : Nat:=0
def tw3504176150950019509 : Nat:=0
def tw5140264739424930598 : Nat:=0
def tw7688464180021026706 : Nat:=0
def tw1198381475414905010 : Nat:=0
def tw17224663547337068995 : Nat:=0
def tw712581025427318381 : Nat:=0
def tw18334518880316977298 : Nat:=0
def tw17522835662835698482 : Nat:=0
def tw12283219317775965186 : Nat:=0
def tw6756774628336431922 : Nat:=0
def tw18205859375844107113 : Nat:=0
def tw15809357804852039054 : Nat:=0
def tw5084482939895071277 : Nat:=0
def tw6601802056866111882 : Nat:=0
def tw12659954224520380736 : Nat:=0
def tw4111734651561617735 : Nat:=0
def tw4108544784767753694 : Nat:=0
def tw14228642282583999241 : Nat:=0
def tw14153875782916126501 : Nat:=0
def tw1464980868048548529 : Nat:=0
def tw87266850918322460 : Nat:=0
def tw5156092840618313480 : Nat:=0
def tw10240767229040186609 : Nat:=0
def tw16631544996389360317 : Nat:=0
def tw6787371819391550318 : Nat:=0
def tw9237949290586097251 : Nat:=0
def tw3510780119821072550 : Nat:=0
def tw12238036089151740510 : Nat:=0
def tw2616377683946286885 : Nat:=0
def tw609526347244543030 : Nat:=0
def tw10566385692978577359 : Nat:=0
def tw11439358243067656493 : Nat:=0
def tw15219536019762585233 : Nat:=0
def tw3071273951120968650 : Nat:=0
def tw9509041422851360497 : Nat:=0
def tw10715143792063805241 : Nat:=0
def tw8795965738687532705 : Nat:=0
def tw3374818553201001903 : Nat:=0
def tw3673306130122757761 : Nat:=0
def tw14653144328914151388 : Nat:=0
def tw3934336005783404306 : Nat:=0
def tw7999995491070513817 : Nat:=0
def tw2692259777199740882 : Nat:=0
def tw12938789562183553048 : Nat:=0
def tw312235400855130607 : Nat:=0
def tw11958872100484735235 : Nat:=0
def tw1305347848250795087 : Nat:=0
def tw6070252372602369086 : Nat:=0
def tw2556362859612313558 : Nat:=0
def tw13162190375445770464 : Nat:=0
def tw6687220823056163043 : Nat:=0
def tw3361605681099369817 : Nat:=0
def tw3386105580441707756 : Nat:=0
def tw6354041954656926164 : Nat:=0
def tw8017975324081629958 : Nat:=0
def tw11325471191343011068 : Nat:=0
def tw4227867464326830401 : Nat:=0
def tw14465940737032986915 : Nat:=0
def tw4467972330292002483 : Nat:=0
def tw16542474365003063111 : Nat:=0
def tw2643600699122265892 : Nat:=0
def tw6981731650065933660 : Nat:=0
def tw1445634850566587105 : Nat:=0
def tw5145116504556653759 : Nat:=0
def tw1058601918664301042 : Nat:=0
def tw13965561229906155333 : Nat:=0
def tw16163423570281926435 : Nat:=0
def tw13839885949981257559 : Nat:=0
def tw18075864307094322452 : Nat:=0
def tw13585929277893327196 : Nat:=0
def tw15443584610055382597 : Nat:=0
def tw11765338009168641012 : Nat:=0
def tw14765156097167712488 : Nat:=0
def tw11636110297790500267 : Nat:=0
def tw2551921560329032454 : Nat:=0
def tw12936665746354286269 : Nat:=0
def tw17783791073213406732 : Nat:=0
def tw5229967537149474300 : Nat:=0
def tw5116434425997290837 : Nat:=0
def tw11833234109967220296 : Nat:=0
def tw12865054754298689669 : Nat:=0
def tw14611576841191106578 : Nat:=0
def tw14374452872578029766 : Nat:=0
def tw9793497747218462815 : Nat:=0
def tw44969700914516125 : Nat:=0
def tw14694819623160103015 : Nat:=0
def tw3969575415120447300 : Nat:=0
def tw16565934845920396396 : Nat:=0
def tw8746601909446452314 : Nat:=0
def tw17690869364360066278 : Nat:=0
def tw14506074469972745369 : Nat:=0
def tw17398066943874848418 : Nat:=0
def tw7734610933445703972 : Nat:=0
def tw11660206935222212045 : Nat:=0
def tw5134207316497198302 : Nat:=0
def tw17367485725636416487 : Nat:=0
def tw12173471354597658687 : Nat:=0
def tw4472970268192420465 : Nat:=0
def tw14705867131767035801 : Nat:=0
def tw4258613945679193888 : Nat:=0
def tw17596802963219189108 : Nat:=0
def tw18281316363697915524 : Nat:=0
def tw18317202759859041165 : Nat:=0
def tw5652438845169868652 : Nat:=0
def tw12325490444553346465 : Nat:=0
def tw14817196662386361363 : Nat:=0
def tw469521807327407195 : Nat:=0
def tw16327340828859293777 : Nat:=0
def tw14811699821798994447 : Nat:=0
def tw15744884588758462546 : Nat:=0
def tw3319779586552609218 : Nat:=0
def tw13259686027055848872 : Nat:=0
def tw12047149154514781059 : Nat:=0
def tw13833145002436685316 : Nat:=0
def tw6113510840535387553 : Nat:=0
def tw14349051428580261366 : Nat:=0
def tw6228071315061080771 : Nat:=0
def tw13990913160909514987 : Nat:=0
def tw9827929432131301156 : Nat:=0
def tw3961741669984979152 : Nat:=0
def tw14656183141206044933 : Nat:=0
def tw10684734997881585552 : Nat:=0
def tw9900782066931779927 : Nat:=0
def tw11948348061647792366 : Nat:=0
def tw17760489820654525027 : Nat:=0
def tw6352470125276008289 : Nat:=0
def tw788007652381022449 : Nat:=0
def tw4434592623164598532 : Nat:=0
def tw15063652366604802240 : Nat:=0
def tw2461481034404160317 : Nat:=0
end PySem.W.Fast
open PySem PySem.W PyProof.Rows
set_option maxRecDepth 100000 in
set_option maxHeartbeats 0 in
theorem PySem.Challenge.cw_cutanew_s01_answers_holds : PySem.Challenge.rw_cutanew_s01_answers.Holds := by
  w_on; k_headS; (case hw=>exact ⟨[.list [.int 2]],by decide +kernel,by decide +kernel⟩)
  k_fillS
  refine L2.walk_specK (r:=PySem.Challenge.rw_cutanew_s01_answers) (k:=13) (CX:=L2.CX0) (ps:=["calls"]) (sp:=Cb.sp_answers) (by decide +kernel) rfl rfl ⟨rfl,by decide,by decide⟩ (fun w h Y=>PySem.W.kIn_of Y) ?F ?S (fun _ _ _ _ z=>z)
  case F =>
    intro w mg fa h Y KX G hmg
    have c_Piece:=Cb.cl_p (x:="Piece") (fs:=["kind","size"]) Cb.bs_Piece_init KX G (by k_is) (by k_is) (by k_is) (by k_is) (by k_is) (by k_is) (by k_is) (by k_is) (by k_is) (by k_is) (by k_is) (by k_is) (.cons (by k_is) (.cons (by k_is) .nil))
    have c_Cutter:=Cb.cl_p (x:="Cutter") (fs:=["text","unclosed"]) Cb.bs_Cutter_init KX G (by k_is) (by k_is) (by k_is) (by k_is) (by k_is) (by k_is) (by k_is) (by k_is) (by k_is) (by k_is) (by k_is) (by k_is) (.cons (by k_is) (.cons (by k_is) .nil))
    have c_Written:=Cb.cl_p (x:="Written") (fs:=["text","tokens","begins","open_quote"]) Cb.bs_Written_init KX G (by k_is) (by k_is) (by k_is) (by k_is) (by k_is) (by k_is) (by k_is) (by k_is) (by k_is) (by k_is) (by k_is) (by k_is) (.cons (by k_is) (.cons (by k_is) (.cons (by k_is) (.cons (by k_is) .nil))))
    have c_Stretch:=Cb.cl_p (x:="Stretch") (fs:=["pieces","closed","size","tokens"]) Cb.bs_Stretch_init KX G (by k_is) (by k_is) (by k_is) (by k_is) (by k_is) (by k_is) (by k_is) (by k_is) (by k_is) (by k_is) (by k_is) (by k_is) (.cons (by k_is) (.cons (by k_is) (.cons (by k_is) (.cons (by k_is) .nil))))
    have c_Cut:=Cb.cl_p (x:="Cut") (fs:=["text","stretches","fresh"]) Cb.bs_Cut_init KX G (by k_is) (by k_is) (by k_is) (by k_is) (by k_is) (by k_is) (by k_is) (by k_is) (by k_is) (by k_is) (by k_is) (by k_is) (.cons (by k_is) (.cons (by k_is) (.cons (by k_is) .nil)))
    have c_Comment:=Cb.cl_p (x:="Comment") (fs:=["row","gap"]) Cb.bs_Comment_init KX G (by k_is) (by k_is) (by k_is) (by k_is) (by k_is) (by k_is) (by k_is) (by k_is) (by k_is) (by k_is) (by k_is) (by k_is) (.cons (by k_is) (.cons (by k_is) .nil))
    have c_Token:=Cb.cl_p (x:="Token") (fs:=["kind","begin","row","gap","leading","behind"]) Cb.bs_Token_init KX G (by k_is) (by k_is) (by k_is) (by k_is) (by k_is) (by k_is) (by k_is) (by k_is) (by k_is) (by k_is) (by k_is) (by k_is) (.cons (by k_is) (.cons (by k_is) (.cons (by k_is) (.cons (by k_is) (.cons (by k_is) (.cons (by k_is) .nil))))))
    have c_Things:=Cb.cl_p (x:="Things") (fs:=["tokens","waiting","line_ends","begun"]) Cb.bs_Things_init KX G (by k_is) (by k_is) (by k_is) (by k_is) (by k_is) (by k_is) (by k_is) (by k_is) (by k_is) (by k_is) (by k_is) (by k_is) (.cons (by k_is) (.cons (by k_is) (.cons (by k_is) (.cons (by k_is) .nil))))
    have c_Held:=Cb.cl_p (x:="Held") (fs:=["now","before"]) Cb.bs_Held_init KX G (by k_is) (by k_is) (by k_is) (by k_is) (by k_is) (by k_is) (by k_is) (by k_is) (by k_is) (by k_is) (by k_is) (by k_is) (.cons (by k_is) (.cons (by k_is) .nil))
    have c_Calls:=Cb.cl_p (x:="Calls") (fs:=["numbers","place"]) Cb.bs_Calls_init KX G (by k_is) (by k_is) (by k_is) (by k_is) (by k_is) (by k_is) (by k_is) (by k_is) (by k_is) (by k_is) (by k_is) (by k_is) (.cons (by k_is) (.cons (by k_is) .nil))
    have m_Cutter_piece_at:=Cb.me_p Cb.bs_Cutter_piece_at c_Cutter (by k_is) (by k_is) (by k_is) (by k_is) (by k_is)
    have m_Cutter_quoted_or_odd:=Cb.me_p Cb.bs_Cutter_quoted_or_odd c_Cutter (by k_is) (by k_is) (by k_is) (by k_is) (by k_is)
    have m_Cutter_closing_quote:=Cb.me_p Cb.bs_Cutter_closing_quote c_Cutter (by k_is) (by k_is) (by k_is) (by k_is) (by k_is)
    have m_Written_put:=Cb.me_p Cb.bs_Written_put c_Written (by k_is) (by k_is) (by k_is) (by k_is) (by k_is)
    have m_Written_fits:=Cb.me_p Cb.bs_Written_fits c_Written (by k_is) (by k_is) (by k_is) (by k_is) (by k_is)
    have m_Written_first_unsure:=Cb.me_p Cb.bs_Written_first_unsure c_Written (by k_is) (by k_is) (by k_is) (by k_is) (by k_is)
    have m_Written_write:=Cb.me_p Cb.bs_Written_write c_Written (by k_is) (by k_is) (by k_is) (by k_is) (by k_is)
    have m_Things_take:=Cb.me_p Cb.bs_Things_take c_Things (by k_is) (by k_is) (by k_is) (by k_is) (by k_is)
    have m_Things_gap_here:=Cb.me_p Cb.bs_Things_gap_here c_Things (by k_is) (by k_is) (by k_is) (by k_is) (by k_is)
    have m_Things_take_comment:=Cb.me_p Cb.bs_Things_take_comment c_Things (by k_is) (by k_is) (by k_is) (by k_is) (by k_is)
    have m_Things_take_token:=Cb.me_p Cb.bs_Things_take_token c_Things (by k_is) (by k_is) (by k_is) (by k_is) (by k_is)
    have m_Things_go_on:=Cb.me_p Cb.bs_Things_go_on c_Things (by k_is) (by k_is) (by k_is) (by k_is) (by k_is)
    have m_Held_load:=Cb.me_p Cb.bs_Held_load c_Held (by k_is) (by k_is) (by k_is) (by k_is) (by k_is)
    have m_Held_edit:=Cb.me_p Cb.bs_Held_edit c_Held (by k_is) (by k_is) (by k_is) (by k_is) (by k_is)
    have m_Held_undo:=Cb.me_p Cb.bs_Held_undo c_Held (by k_is) (by k_is) (by k_is) (by k_is) (by k_is)
    have m_Held_tell_text:=Cb.me_p Cb.bs_Held_tell_text c_Held (by k_is) (by k_is) (by k_is) (by k_is) (by k_is)
    have m_Held_tell_tokens:=Cb.me_p Cb.bs_Held_tell_tokens c_Held (by k_is) (by k_is) (by k_is) (by k_is) (by k_is)
    have m_Held_tell_token:=Cb.me_p Cb.bs_Held_tell_token c_Held (by k_is) (by k_is) (by k_is) (by k_is) (by k_is)
    have m_Held_tell_leads:=Cb.me_p Cb.bs_Held_tell_leads c_Held (by k_is) (by k_is) (by k_is) (by k_is) (by k_is)
    have m_Held_tell_behind:=Cb.me_p Cb.bs_Held_tell_behind c_Held (by k_is) (by k_is) (by k_is) (by k_is) (by k_is)
    have m_Held_tell_stretches:=Cb.me_p Cb.bs_Held_tell_stretches c_Held (by k_is) (by k_is) (by k_is) (by k_is) (by k_is)
    have m_Held_tell_stretch:=Cb.me_p Cb.bs_Held_tell_stretch c_Held (by k_is) (by k_is) (by k_is) (by k_is) (by k_is)
    have m_Held_tell_place:=Cb.me_p Cb.bs_Held_tell_place c_Held (by k_is) (by k_is) (by k_is) (by k_is) (by k_is)
    have m_Held_tell_offset:=Cb.me_p Cb.bs_Held_tell_offset c_Held (by k_is) (by k_is) (by k_is) (by k_is) (by k_is)
    have m_Held_tell_same:=Cb.me_p Cb.bs_Held_tell_same c_Held (by k_is) (by k_is) (by k_is) (by k_is) (by k_is)
    have m_Held_tell_spaced:=Cb.me_p Cb.bs_Held_tell_spaced c_Held (by k_is) (by k_is) (by k_is) (by k_is) (by k_is)
    have m_Calls_more:=Cb.me_p Cb.bs_Calls_more c_Calls (by k_is) (by k_is) (by k_is) (by k_is) (by k_is)
    have m_Calls_take_number:=Cb.me_p Cb.bs_Calls_take_number c_Calls (by k_is) (by k_is) (by k_is) (by k_is) (by k_is)
    have m_Calls_take_row:=Cb.me_p Cb.bs_Calls_take_row c_Calls (by k_is) (by k_is) (by k_is) (by k_is) (by k_is)
    have f_is_token:=Cb.fn_p Cb.bs_is_token KX G (by k_is) (by k_is) (by k_is) (by k_is)
    have f_is_letter:=Cb.fn_p Cb.bs_is_letter KX G (by k_is) (by k_is) (by k_is) (by k_is)
    have f_is_digit:=Cb.fn_p Cb.bs_is_digit KX G (by k_is) (by k_is) (by k_is) (by k_is)
    have f_goes_on:=Cb.fn_p Cb.bs_goes_on KX G (by k_is) (by k_is) (by k_is) (by k_is)
    have f_step_within_quotes:=Cb.fn_p Cb.bs_step_within_quotes KX G (by k_is) (by k_is) (by k_is) (by k_is)
    have f_rest_end:=Cb.fn_p Cb.bs_rest_end KX G (by k_is) (by k_is) (by k_is) (by k_is)
    have f_word_end:=Cb.fn_p Cb.bs_word_end KX G (by k_is) (by k_is) (by k_is) (by k_is)
    have f_digits_end:=Cb.fn_p Cb.bs_digits_end KX G (by k_is) (by k_is) (by k_is) (by k_is)
    have f_number_end:=Cb.fn_p Cb.bs_number_end KX G (by k_is) (by k_is) (by k_is) (by k_is)
    have f_sign_or_odd:=Cb.fn_p Cb.bs_sign_or_odd KX G (by k_is) (by k_is) (by k_is) (by k_is)
    have f_tokens_in:=Cb.fn_p Cb.bs_tokens_in KX G (by k_is) (by k_is) (by k_is) (by k_is)
    have f_written_closely:=Cb.fn_p Cb.bs_written_closely KX G (by k_is) (by k_is) (by k_is) (by k_is)
    have f_line_begin:=Cb.fn_p Cb.bs_line_begin KX G (by k_is) (by k_is) (by k_is) (by k_is)
    have f_line_begins:=Cb.fn_p Cb.bs_line_begins KX G (by k_is) (by k_is) (by k_is) (by k_is)
    have f_line_and_column:=Cb.fn_p Cb.bs_line_and_column KX G (by k_is) (by k_is) (by k_is) (by k_is)
    have f_place_at:=Cb.fn_p Cb.bs_place_at KX G (by k_is) (by k_is) (by k_is) (by k_is)
    have f_first_difference:=Cb.fn_p Cb.bs_first_difference KX G (by k_is) (by k_is) (by k_is) (by k_is)
    have f_what_counts:=Cb.fn_p Cb.bs_what_counts KX G (by k_is) (by k_is) (by k_is) (by k_is)
    have f_rows_of:=Cb.fn_p Cb.bs_rows_of KX G (by k_is) (by k_is) (by k_is) (by k_is)
    have f_cut_whole:=Cb.fn_p Cb.bs_cut_whole KX G (by k_is) (by k_is) (by k_is) (by k_is)
    have f_cut_anew:=Cb.fn_p Cb.bs_cut_anew KX G (by k_is) (by k_is) (by k_is) (by k_is)
    have f_kept_stretches:=Cb.fn_p Cb.bs_kept_stretches KX G (by k_is) (by k_is) (by k_is) (by k_is)
    have f_known_ends:=Cb.fn_p Cb.bs_known_ends KX G (by k_is) (by k_is) (by k_is) (by k_is)
    have f_cut_from:=Cb.fn_p Cb.bs_cut_from KX G (by k_is) (by k_is) (by k_is) (by k_is)
    have f_cut_stretch:=Cb.fn_p Cb.bs_cut_stretch KX G (by k_is) (by k_is) (by k_is) (by k_is)
    have f_comment_behind:=Cb.fn_p Cb.bs_comment_behind KX G (by k_is) (by k_is) (by k_is) (by k_is)
    have f_total_size:=Cb.fn_p Cb.bs_total_size KX G (by k_is) (by k_is) (by k_is) (by k_is)
    have f_ends_of:=Cb.fn_p Cb.bs_ends_of KX G (by k_is) (by k_is) (by k_is) (by k_is)
    have f_token_count:=Cb.fn_p Cb.bs_token_count KX G (by k_is) (by k_is) (by k_is) (by k_is)
    have f_kind_and_number:=Cb.fn_p Cb.bs_kind_and_number KX G (by k_is) (by k_is) (by k_is) (by k_is)
    have f_things_of:=Cb.fn_p Cb.bs_things_of KX G (by k_is) (by k_is) (by k_is) (by k_is)
    have f_without_last_blanks:=Cb.fn_p Cb.bs_without_last_blanks KX G (by k_is) (by k_is) (by k_is) (by k_is)
    have f_counted:=Cb.fn_p Cb.bs_counted KX G (by k_is) (by k_is) (by k_is) (by k_is)
    have f_change:=Cb.fn_p Cb.bs_change KX G (by k_is) (by k_is) (by k_is) (by k_is)
    have f_tell_of_all:=Cb.fn_p Cb.bs_tell_of_all KX G (by k_is) (by k_is) (by k_is) (by k_is)
    have f_tell_of_one:=Cb.fn_p Cb.bs_tell_of_one KX G (by k_is) (by k_is) (by k_is) (by k_is)
    have f_answer:=Cb.fn_p Cb.bs_answer KX G (by k_is) (by k_is) (by k_is) (by k_is)
    have f_answers:=Cb.fn_p Cb.bs_answers KX G (by k_is) (by k_is) (by k_is) (by k_is)
    have t_LONE_SIGNS:=Cb.tu_p (x:="LONE_SIGNS") (xs:=[.int 33,.int 37,.int 40,.int 41,.int 42,.int 43,.int 44,.int 45,.int 46,.int 47,.int 58,.int 59,.int 60,.int 61,.int 62,.int 91,.int 93,.int 123,.int 125]) KX G (by k_is) (by k_is) (by decide) rfl
    have t_PAIR_SIGNS:=Cb.tups_p (x:="PAIR_SIGNS") (xs:=[[.int 61,.int 62],[.int 61,.int 61],[.int 33,.int 61],[.int 60,.int 61],[.int 62,.int 61],[.int 38,.int 38],[.int 124,.int 124]]) KX G (by k_is) (by k_is) (Cb.tups_cons (Cb.pair_p (by k_is)) (Cb.tups_cons (Cb.pair_p (by k_is)) (Cb.tups_cons (Cb.pair_p (by k_is)) (Cb.tups_cons (Cb.pair_p (by k_is)) (Cb.tups_cons (Cb.pair_p (by k_is)) (Cb.tups_cons (Cb.pair_p (by k_is)) (Cb.tups_cons (Cb.pair_p (by k_is)) Cb.tups_nil)))))))
    refine Cb.all_of ?_ hmg
    exact {
      g_BLANK:=Cb.g_int KX G (by k_is)
      g_LINE_END:=Cb.g_int KX G (by k_is)
      g_COMMENT:=Cb.g_int KX G (by k_is)
      g_WORD:=Cb.g_int KX G (by k_is)
      g_NUMBER:=Cb.g_int KX G (by k_is)
      g_QUOTED:=Cb.g_int KX G (by k_is)
      g_SIGN:=Cb.g_int KX G (by k_is)
      g_ODD:=Cb.g_int KX G (by k_is)
      g_TEXT_END:=Cb.g_int KX G (by k_is)
      g_LINE_END_BYTE:=Cb.g_int KX G (by k_is)
      g_BLANK_BYTE:=Cb.g_int KX G (by k_is)
      g_QUOTE_BYTE:=Cb.g_int KX G (by k_is)
      g_HASH_BYTE:=Cb.g_int KX G (by k_is)
      g_POINT_BYTE:=Cb.g_int KX G (by k_is)
      g_SEMICOLON_BYTE:=Cb.g_int KX G (by k_is)
      g_BACKSLASH_BYTE:=Cb.g_int KX G (by k_is)
      g_UNDERSCORE_BYTE:=Cb.g_int KX G (by k_is)
      g_LONE_SIGNS:=t_LONE_SIGNS.toI
      g_PAIR_SIGNS:=t_PAIR_SIGNS.toI
      g_LOAD:=Cb.g_int KX G (by k_is)
      g_EDIT:=Cb.g_int KX G (by k_is)
      g_UNDO:=Cb.g_int KX G (by k_is)
      g_TEXT:=Cb.g_int KX G (by k_is)
      g_TOKENS:=Cb.g_int KX G (by k_is)
      g_TOKEN:=Cb.g_int KX G (by k_is)
      g_LEADS:=Cb.g_int KX G (by k_is)
      g_BEHIND:=Cb.g_int KX G (by k_is)
      g_STRETCHES:=Cb.g_int KX G (by k_is)
      g_STRETCH:=Cb.g_int KX G (by k_is)
      g_PLACE:=Cb.g_int KX G (by k_is)
      g_OFFSET:=Cb.g_int KX G (by k_is)
      g_SAME:=Cb.g_int KX G (by k_is)
      g_SPACED:=Cb.g_int KX G (by k_is)
      g_TOO_LONG:=Cb.g_int KX G (by k_is)
      g_NO_PLACE:=Cb.g_int KX G (by k_is)
      g_NO_SUCH:=Cb.g_int KX G (by k_is)
      g_NONE_BEHIND:=Cb.g_int KX G (by k_is)
      g_TOO_MANY:=Cb.g_int KX G (by k_is)
      g_NO_EDIT:=Cb.g_int KX G (by k_is)
      g_MOST_BYTES:=Cb.g_int KX G (by k_is)
      g_MOST_EDITS:=Cb.g_int KX G (by k_is)
      g_MOST_SPACED:=Cb.g_int KX G (by k_is)
      n_enumerate:=PySem.W.mg_none_of KX G (by k_is)
      n_len:=PySem.W.mg_none_of KX G (by k_is)
      n_list:=PySem.W.mg_none_of KX G (by k_is)
      n_max:=PySem.W.mg_none_of KX G (by k_is)
      n_min:=PySem.W.mg_none_of KX G (by k_is)
      n_range:=PySem.W.mg_none_of KX G (by k_is)
      n_sum:=PySem.W.mg_none_of KX G (by k_is)
      n_zip:=PySem.W.mg_none_of KX G (by k_is)
      Piece:=c_Piece.toI
      Cutter:=c_Cutter.toI
      Written:=c_Written.toI
      Stretch:=c_Stretch.toI
      Cut:=c_Cut.toI
      Comment:=c_Comment.toI
      Token:=c_Token.toI
      Things:=c_Things.toI
      Held:=c_Held.toI
      Calls:=c_Calls.toI
      m_Cutter_piece_at:=m_Cutter_piece_at.toI
      m_Cutter_quoted_or_odd:=m_Cutter_quoted_or_odd.toI
      m_Cutter_closing_quote:=m_Cutter_closing_quote.toI
      f_is_token:=f_is_token.toI
      f_is_letter:=f_is_letter.toI
      f_is_digit:=f_is_digit.toI
      f_goes_on:=f_goes_on.toI
      f_step_within_quotes:=f_step_within_quotes.toI
      f_rest_end:=f_rest_end.toI
      f_word_end:=f_word_end.toI
      f_digits_end:=f_digits_end.toI
      f_number_end:=f_number_end.toI
      f_sign_or_odd:=f_sign_or_odd.toI
      m_Written_put:=m_Written_put.toI
      m_Written_fits:=m_Written_fits.toI
      m_Written_first_unsure:=m_Written_first_unsure.toI
      m_Written_write:=m_Written_write.toI
      f_tokens_in:=f_tokens_in.toI
      f_written_closely:=f_written_closely.toI
      f_line_begin:=f_line_begin.toI
      f_line_begins:=f_line_begins.toI
      f_line_and_column:=f_line_and_column.toI
      f_place_at:=f_place_at.toI
      f_first_difference:=f_first_difference.toI
      f_what_counts:=f_what_counts.toI
      f_rows_of:=f_rows_of.toI
      f_cut_whole:=f_cut_whole.toI
      f_cut_anew:=f_cut_anew.toI
      f_kept_stretches:=f_kept_stretches.toI
      f_known_ends:=f_known_ends.toI
      f_cut_from:=f_cut_from.toI
      f_cut_stretch:=f_cut_stretch.toI
      f_comment_behind:=f_comment_behind.toI
      f_total_size:=f_total_size.toI
      f_ends_of:=f_ends_of.toI
      f_token_count:=f_token_count.toI
      f_kind_and_number:=f_kind_and_number.toI
      m_Things_take:=m_Things_take.toI
      m_Things_gap_here:=m_Things_gap_here.toI
      m_Things_take_comment:=m_Things_take_comment.toI
      m_Things_take_token:=m_Things_take_token.toI
      m_Things_go_on:=m_Things_go_on.toI
      f_things_of:=f_things_of.toI
      f_without_last_blanks:=f_without_last_blanks.toI
      m_Held_load:=m_Held_load.toI
      m_Held_edit:=m_Held_edit.toI
      m_Held_undo:=m_Held_undo.toI
      m_Held_tell_text:=m_Held_tell_text.toI
      m_Held_tell_tokens:=m_Held_tell_tokens.toI
      m_Held_tell_token:=m_Held_tell_token.toI
      m_Held_tell_leads:=m_Held_tell_leads.toI
      m_Held_tell_behind:=m_Held_tell_behind.toI
      m_Held_tell_stretches:=m_Held_tell_stretches.toI
      m_Held_tell_stretch:=m_Held_tell_stretch.toI
      m_Held_tell_place:=m_Held_tell_place.toI
      m_Held_tell_offset:=m_Held_tell_offset.toI
      m_Held_tell_same:=m_Held_tell_same.toI
      m_Held_tell_spaced:=m_Held_tell_spaced.toI
      m_Calls_more:=m_Calls_more.toI
      m_Calls_take_number:=m_Calls_take_number.toI
      m_Calls_take_row:=m_Calls_take_row.toI
      f_counted:=f_counted.toI
      f_change:=f_change.toI
      f_tell_of_all:=f_tell_of_all.toI
      f_tell_of_one:=f_tell_of_one.toI
      f_answer:=f_answer.toI
      f_answers:=f_answers.toI
    }
  case S =>
    intro K H xs a hO hwi hask hx
    cases hx with
    | cons h1 h2 =>
      cases h2
      cases h1 with
      | lst hs ha =>
        have e:=L2.ints_dw a.1 _ ha
        subst e
        exact ⟨_,a.1,rfl,hO,hs,hask,fun H' p hp=>.lst (L2.SqL.of hp) (L2.dw_ints _)⟩
