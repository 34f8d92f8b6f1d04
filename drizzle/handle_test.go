package drizzle

import (
	"reflect"
	"testing"

	"drizzle/api"
)

func TestDoneOfTheObjectThatIsSending(t *testing.T) {
	s := newSender(t, 4, 20)
	wantSubmit(t, s, "hello", 1, 1)
	wantSubmit(t, s, "rain", 2, 2)
	for range 3 {
		wantFrame(t, s)
	}
	s.Handle(doneOf(1, 4))
	wantStatus(t, s, 1, api.Done, 3)
	wantStatus(t, s, 2, api.Waiting, 0)
	if got := read(t, wantFrame(t, s)).number; got != 2 {
		t.Errorf("P7: a frame of object %d, want one of 2", got)
	}
	s.Handle(doneOf(2, 4))
	wantStatus(t, s, 1, api.Done, 3)
	wantStatus(t, s, 2, api.Done, 1)
	wantNothing(t, s)
	wantSubmit(t, s, "more", 3, 3)
	wantStatus(t, s, 3, api.Waiting, 0)
}

func TestDoneAtTheEndOfTheBudget(t *testing.T) {
	s := newSender(t, 4, 2)
	wantSubmit(t, s, "hello", 1, 1)
	wantSubmit(t, s, "hello", 1, 2)
	wantFrame(t, s)
	wantFrame(t, s)
	s.Handle(doneOf(1, 4)) // no tick yet by which it would be Failed
	wantStatus(t, s, 1, api.Done, 2)
	wantFrame(t, s)
	wantFrame(t, s)
	wantNothing(t, s)
	wantStatus(t, s, 2, api.Failed, 2)
	s.Handle(doneOf(2, 4))
	wantStatus(t, s, 2, api.Failed, 2)
	s.Handle(doneOf(1, 4))
	wantStatus(t, s, 1, api.Done, 2)
}

func TestDoneOfOtherObjects(t *testing.T) {
	s := newSender(t, 4, 2)
	s.Handle(doneOf(1, 4)) // there is none
	for n := 1; n <= 5; n++ {
		wantSubmit(t, s, "hello", 1, n)
	}
	s.Handle(doneOf(1, 4)) // it waits
	wantStatus(t, s, 1, api.Waiting, 0)
	wantFrame(t, s)
	s.Handle(doneOf(1, 4))
	for range 3 {
		s.Tick() // object 2 is Failed
	}
	s.Handle(doneOf(3, 4)) // it has its turn, but waits
	wantStatus(t, s, 3, api.Waiting, 0)
	wantFrame(t, s)
	want := []api.Status{{State: api.Done, Sent: 1}, {State: api.Failed, Sent: 2}, {State: api.Sending, Sent: 1}, {State: api.Waiting}, {State: api.Waiting}}
	for n := range 1 << 16 {
		if n == 3 {
			continue
		}
		s.Handle(doneOf(n, 4))
		if n < 10 || n > 1<<16-10 || n%256 == 3 {
			for i, w := range want {
				wantStatus(t, s, i+1, w.State, w.Sent)
			}
		}
	}
	s.Handle(doneOf(3, 4))
	wantStatus(t, s, 3, api.Done, 1)
	wantStatus(t, s, 4, api.Waiting, 0)
}

func TestDoneOfAnotherNetwork(t *testing.T) {
	s := newSender(t, 4, 20)
	wantSubmit(t, s, "hello", 1, 1)
	wantFrame(t, s)
	for block := range api.MaxBlock + 1 {
		if block != 4 {
			s.Handle(doneOf(1, block))
		}
	}
	wantStatus(t, s, 1, api.Sending, 1)
}

func TestSpoiledFramesAtASender(t *testing.T) {
	for _, block := range []int{1, 4, 32} {
		s := newSender(t, block, 20)
		for n := 1; n <= 3; n++ {
			wantSubmit(t, s, bytesOf(2*block), 1, n)
		}
		wantFrame(t, s)
		s.Handle(doneOf(1, block))
		sum := wantFrame(t, s)
		for _, frame := range []string{doneOf(1, block), doneOf(2, block), doneOf(3, block), doneOf(500, block), sum} {
			for text := range spoiled(frame) {
				s.Handle(text)
				if got, _ := s.Status(2); got.State != api.Sending {
					t.Fatalf("P7: %x, which is %x spoiled, lets object 2 be %+v", text, frame, got)
				}
			}
		}
		wantStatus(t, s, 1, api.Done, 1)
		wantStatus(t, s, 2, api.Sending, 1)
		wantStatus(t, s, 3, api.Waiting, 0)
		s.Handle(doneOf(2, block))
		wantStatus(t, s, 2, api.Done, 1)
	}
}

func TestWrongTextsAtASender(t *testing.T) {
	s := newSender(t, 4, 20)
	wantSubmit(t, s, "hello", 1, 1)
	wantSubmit(t, s, "hello", 1, 2)
	texts := noFrames(doneOf(1, 4))
	for range 20 {
		texts = append(texts, wantFrame(t, s)) // it comes back to the side that sent it
	}
	texts = append(texts, noFrames(texts[len(texts)-1])...)
	for _, text := range texts {
		s.Handle(text)
		if got, _ := s.Status(1); got.State != api.Sending {
			t.Fatalf("P7: a text of %d bytes lets object 1 be %+v", len(text), got)
		}
	}
	wantStatus(t, s, 1, api.Sending, 20)
	wantStatus(t, s, 2, api.Waiting, 0)
}

func TestFramesOfOtherObjectsChangeNothing(t *testing.T) {
	handled := answers(t, func(s *Sender, last []string) {
		for _, frame := range last {
			s.Handle(frame)
			s.Handle(doneOf(read(t, frame).number+1, 5))
			s.Handle(doneOf(read(t, frame).number-1, 5))
			s.Handle(spoil(doneOf(read(t, frame).number, 5), 20, 0b1001))
		}
		s.Handle("")
	})
	if !reflect.DeepEqual(handled, answers(t, leaveAlone)) {
		t.Error("P7: frames for other objects, spoiled ones and such that came back changed later answers")
	}
}
