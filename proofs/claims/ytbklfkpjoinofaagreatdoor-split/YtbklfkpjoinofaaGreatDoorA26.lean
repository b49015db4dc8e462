import Derived.Test.YtbklfkpjoinofaaGreatDoorA25
set_option linter.all false
set_option maxRecDepth 100000
set_option maxHeartbeats 8000000
namespace Go.Proofs.YtbklfkpjoinofaaGreatDoor
open Go.RowKit Go.Proofs.Tryz
theorem lZ {t:ByteArray} (h:t.size=0):t=⟨#[]⟩:=by
 obtain ⟨a⟩:=t;have:a=#[]:=Array.size_eq_zero_iff.1 h;rw [this]
theorem St.drawing_of {s:St} (h:s.drawing=true):s.op=true/\s.left=0:=by unfold St.drawing at h;simpa using h
theorem St.ok.ended {s:St} (h:s.ok):s.endPage.2.ok:=by
 unfold St.endPage;split
 ·rename_i hd
  exact ⟨h.size,h.left,h.pages,fun e=>by simp at e,h.marks,fun _=>(St.drawing_of hd).2,fun _=>rfl⟩
 ·exact h
theorem St.ok.closed {s:St} (h:s.ok):s.close.2.ok:=by
 unfold St.close;split
 ·exact h
 ·rename_i hn
  refine ⟨h.size,h.left,h.pages,h.some,h.marks,h.idle,fun _=>?_⟩
  cases e:s.op with
  | false=>rfl
  | true=>exact absurd (.inl e) hn
theorem St.ok.titled {s:St} (h:s.ok) (t:ByteArray):(s.titled t).2.ok:=by
 unfold St.titled;split
 ·exact h
 ·split
  ·exact h
  ·exact ⟨h.size,h.left,h.pages,h.some,h.marks,h.idle,h.shut⟩
theorem St.ok.paged {s:St} (h:s.ok) (W H:Int):(s.page W H).2.ok:=by
 unfold St.page;split
 ·exact h
 ·rename_i hn
  split
  ·exact h
  ·split
   ·exact h
   ·rename_i h8
    have ho:s.op=false:=by
     cases e:s.op with
     | false=>rfl
     | true=>exact absurd (.inl e) hn
    have hl:=h.idle ho;have hp:=h.pages;refine ⟨by simp,h.left,by simp;omega,fun _=>⟨_,_,rfl,by simp [hl]⟩,h.marks,fun e=>by simp at e,fun e=>?_⟩;exact absurd (.inr e) hn
theorem St.ok.marked {s:St} (h:s.ok) (t:ByteArray):(s.mark t).2.ok:=by
 unfold St.mark;split
 ·exact h
 ·split
  ·exact h
  ·split
   ·exact h
   ·rename_i h8
    exact ⟨h.size,h.left,h.pages,h.some,by simp;omega,h.idle,h.shut⟩
theorem bj.text_pos (o:bj):0 < o.text.length:=by
 cases e:o.text with
 | nil=>exact absurd e o.text_ne
 | cons a l=>simp
theorem St.put_len (s:St) (o:bj):(s.put o).length=s.pages.length:=by
 unfold St.put
 cases s.pages with
 | nil=>rfl
 | cons p l=>simp
theorem St.ok.drawn {s:St} (h:s.ok) (o:bj):(s.draw o).2.ok:=by
 unfold St.draw;split
 ·exact h
 ·rename_i hd
  have hdr:s.drawing=true:=by cases e:s.drawing with | false=>exact absurd e hd | true=>rfl
  obtain ⟨hop,hl⟩:=St.drawing_of hdr;split
  ·exact h
  ·split
   ·exact h
   ·obtain ⟨p,l,hpl,hpn⟩:=h.some hop;have:=o.text_pos;rw [ZN hl] at hpn;have hpg:=h.pages;refine ⟨by simp only;omega,h.left,by simp only [St.put_len];omega,fun _=>⟨(p.1,p.2.1,p.2.2++[o]),l,by simp [St.put,hpl],by simp [hl];omega⟩,h.marks,h.idle,h.shut⟩
theorem St.ok.began {s:St} (h:s.ok) (o:bj):(s.begin o).2.ok:=by
 unfold St.begin;split
 ·exact h
 ·rename_i hd
  have hdr:s.drawing=true:=by cases e:s.drawing with | false=>exact absurd e hd | true=>rfl
  obtain ⟨hop,hl⟩:=St.drawing_of hdr;split
  ·exact h
  ·rename_i hf
   have hfr:o.isFrame:=Xw.1 hf;split
   ·exact h
   ·obtain ⟨p,l,hpl,hpn⟩:=h.some hop;have:=o.text_pos;rw [ZN hl] at hpn;obtain ⟨_,s0,_,_,_,_,_,⟨c1,c2⟩,⟨r1,r2⟩⟩:=hfr;have hp:0<=o.co*o.ro:=Xy (by omega) (by omega);have hq:o.co*o.ro<=64*64:=XM c2 r2 (by omega) (by omega);refine ⟨by simp only;omega,by simp only [s0];omega,h.pages,fun _=>⟨p,l,hpl,?_⟩,h.marks,fun e=>?_,h.shut⟩
    ·simp only;split <;> omega
    ·exact absurd (hop.symm.trans e) (by simp)
theorem St.ok.fed {s:St} (h:s.ok) (t:ByteArray):(s.data t).2.ok:=by
 unfold St.data;split
 ·exact h
 ·rename_i h0
  split
  ·exact h
  ·rename_i h1
   have hop:s.op=true:=by
    cases e:s.op with
    | true=>rfl
    | false=>exact absurd (h.idle e) h0
   obtain ⟨p,l,hpl,hpn⟩:=h.some hop;rw [ZO h0] at hpn;have hl:=h.left;have hm:(s.more t).s.size=s.img.s.size+t.size:=by simp [St.more]
   split
   ·refine ⟨h.size,by simp only [hm];omega,h.pages,fun _=>⟨p,l,hpl,?_⟩,h.marks,fun e=>absurd (hop.symm.trans e) (by simp),h.shut⟩;simp only;split <;> omega
   ·have hpg:=h.pages;refine ⟨h.size,by simp only [hm];omega,by simp only [St.put_len];omega,fun _=>⟨(p.1,p.2.1,p.2.2++[s.more t]),l,by simp [St.put,hpl],by simp;omega⟩,h.marks,fun _=>rfl,h.shut⟩
def St.new:St:=⟨⟨#[]⟩,[],[],false,⟨0,0,0,0,0,0,0,0,⟨#[]⟩⟩,0,0,false,[],(lJ,[])⟩
theorem St.new_ok:St.new.ok:=⟨by decide,by decide,by decide,fun e=>by simp [St.new] at e,by decide,fun _=>rfl,fun e=>by simp [St.new] at e⟩
end Go.Proofs.YtbklfkpjoinofaaGreatDoor
