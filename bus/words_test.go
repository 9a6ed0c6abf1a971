package bus_test

import (
	"math/rand"
	"slices"
	"strconv"
	"testing"

	"chandler/api"
	"chandler/bus"
)

// words is a bus by the chapter's words.
type words struct {
	next int
	list []bus.Letter
}

func (w *words) send(l bus.Letter) (int, api.Errno) {
	if len(w.list) == api.MaxLetters {
		return 0, api.ErrMany
	}
	l.ID = w.next
	w.next++
	w.list = append(slices.Clone(w.list), l)
	return l.ID, api.OK
}

func (w *words) double(at int) (int, api.Errno) {
	if at < 0 || at >= len(w.list) {
		return 0, api.ErrNone
	}
	return w.send(w.list[at])
}

func (w *words) take(at int) (bus.Letter, api.Errno) {
	if at < 0 || at >= len(w.list) {
		return bus.Letter{}, api.ErrNone
	}
	l := w.list[at]
	w.list = slices.Concat(w.list[:at], w.list[at+1:])
	return l, api.OK
}

// act asks both for the same: of a kind 0 to send, 1 to double, 2 to take.
func act(t *testing.T, b *bus.Bus, w *words, kind, at int) {
	t.Helper()
	switch kind {
	case 0:
		l := letter(at, "sent "+strconv.Itoa(w.next))
		number, e := w.send(l)
		wantSend(t, b, l, number, e)
	case 1:
		number, e := w.double(at)
		wantDouble(t, b, at, number, e)
	case 2:
		l, e := w.take(at)
		wantTake(t, b, at, l, e)
	}
	wantBus(t, b, w.next, w.list)
}

// TestByWords holds P7.2 and P7.3 at all runs of five calls behind a first letter, at the first four places and the one before them.
func TestByWords(t *testing.T) {
	calls := [][2]int{{0, 0}}
	for at := -1; at <= 3; at++ {
		calls = append(calls, [2]int{1, at}, [2]int{2, at})
	}
	runs := 1
	for range 5 {
		runs *= len(calls)
	}
	for run := range runs {
		b, w := bus.New(), &words{next: 1}
		act(t, b, w, 0, 0) // on a new bus any other call would be refused
		for range 5 {
			act(t, b, w, calls[run%len(calls)][0], calls[run%len(calls)][1])
			run /= len(calls)
		}
		if t.Failed() {
			return
		}
	}
}

// TestByWordsNearFull holds P7.2 and P7.3 by the chapter's words at long runs of calls near MaxLetters letters, and P7.1 of what they leave.
func TestByWordsNearFull(t *testing.T) {
	chance := rand.New(rand.NewSource(7))
	w := &words{next: 2*api.MaxLetters + 5}
	for id := range api.MaxLetters - 3 {
		w.list = append(w.list, letter(2*id+1, "v"))
	}
	b := restored(t, w.next, w.list...)
	refused, done := 0, 0
	for range 600 {
		full := len(w.list) == api.MaxLetters
		kind := chance.Intn(3)
		act(t, b, w, kind, chance.Intn(api.MaxLetters+2)-1)
		if full && kind < 2 {
			refused++
		} else {
			done++
		}
		if t.Failed() {
			return
		}
	}
	if refused < 20 || done < 100 {
		t.Errorf("%d calls met a full bus, %d didn't", refused, done)
	}
	restored(t, b.Next(), b.List()...)
}
