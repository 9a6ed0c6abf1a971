package inbox_test

import (
	"math/rand"
	"slices"
	"sort"
	"testing"

	"chandler/api"
	"chandler/inbox"
)

const (
	do   = false
	undo = true
)

// request is one that was answered, with its code.
type request struct {
	order, step, try int
	undo             bool
	code             int
}

// words is an inbox by the chapter's words: all that was kept, the oldest first.
type words []request

// wordsOf are the requests that leave these entries.
func wordsOf(list ...inbox.Entry) words {
	var w words
	for _, e := range list {
		if e.Try > 0 {
			w = append(w, request{e.Order, e.Step, e.Try, do, e.Code})
		}
		if e.Barred {
			w = append(w, request{e.Order, e.Step, 0, undo, 0})
		}
	}
	return w
}

// of is what is remembered of a step: nothing, if its Try is 0 and it isn't barred.
func (w words) of(order, step int) inbox.Entry {
	e := inbox.Entry{Order: order, Step: step}
	for _, r := range w {
		switch {
		case r.order != order || r.step != step:
		case r.undo:
			e.Barred = true
		case r.try > e.Try:
			e.Try, e.Code = r.try, r.code
		}
	}
	return e
}

func (w words) ask(order, step, try int, undo bool) (inbox.Verdict, int) {
	e := w.of(order, step)
	if undo {
		if e.Barred {
			return inbox.Known, 0
		}
		return inbox.Fresh, 0
	}
	if e.Barred {
		return inbox.Known, 151
	}
	if try < 1 || try < e.Try {
		return inbox.Stale, 0
	}
	if try == e.Try {
		return inbox.Known, e.Code
	}
	return inbox.Fresh, 0
}

func (w *words) keep(r request) api.Errno {
	if verdict, _ := w.ask(r.order, r.step, r.try, r.undo); verdict != inbox.Fresh {
		return api.ErrState
	}
	*w = append(*w, r)
	return api.OK
}

func (w words) done(order, step int) bool {
	e := w.of(order, step)
	return e.Try > 0 && e.Code == 0 && !e.Barred
}

func (w words) list() []inbox.Entry {
	var list []inbox.Entry
	for _, r := range w {
		if e := w.of(r.order, r.step); !slices.Contains(list, e) {
			list = append(list, e)
		}
	}
	sort.Slice(list, func(i, j int) bool {
		if list[i].Order != list[j].Order {
			return list[i].Order < list[j].Order
		}
		return list[i].Step < list[j].Step
	})
	return list
}

// questions are the orders, steps and tries that an inbox is asked of.
type questions struct {
	orders, steps, tries []int
}

// want asks for all that an inbox tells, more than once, as asking is to change nothing.
func (w words) want(t *testing.T, x *inbox.Inbox, q questions) {
	t.Helper()
	for range 2 {
		if got, want := x.List(), w.list(); !slices.Equal(got, want) {
			t.Fatalf("behind %v: List() = %+v, want %+v", w, got, want)
		}
		for _, order := range q.orders {
			for _, step := range q.steps {
				w.wantStep(t, x, order, step, q.tries)
			}
		}
	}
}

func (w words) wantStep(t *testing.T, x *inbox.Inbox, order, step int, tries []int) {
	t.Helper()
	if got, want := x.Done(order, step), w.done(order, step); got != want {
		t.Fatalf("behind %v: Done(%d, %d) = %v, want %v", w, order, step, got, want)
	}
	for _, try := range tries {
		for _, undo := range []bool{do, undo} {
			verdict, code := w.ask(order, step, try, undo)
			wantAsk(t, x, order, step, try, undo, verdict, code)
		}
	}
}

// act hands a request to both.
func (w *words) act(t *testing.T, x *inbox.Inbox, r request) api.Errno {
	t.Helper()
	e := w.keep(r)
	wantKeep(t, x, r, e)
	return e
}

// TestByWords holds P8.2 to P8.4 at all runs of four requests of two steps, up to the try 3, and P8.1 of what they leave.
func TestByWords(t *testing.T) {
	var requests []request
	for _, step := range []int{0, 1} {
		requests = append(requests, request{7, step, 2, undo, 0}, request{7, step, 0, do, 0})
		for try := 1; try <= 3; try++ {
			requests = append(requests, request{7, step, try, do, 0}, request{7, step, try, do, 150})
		}
	}
	q := questions{orders: []int{7}, steps: []int{0, 1, 2}, tries: []int{-1, 0, 1, 2, 3, 4}}
	runs := 1
	for range 4 {
		runs *= len(requests)
	}
	for run := range runs {
		x, w := inbox.New(), words{}
		for range 4 {
			w.act(t, x, requests[run%len(requests)])
			run /= len(requests)
		}
		w.want(t, x, q)
		w.want(t, restored(t, x.List()...), q)
	}
}

// TestByWordsAtBounds holds P8.2 to P8.4 at long runs of requests whose numbers lie around 0 and at the bounds of an int, and P8.1 of what they leave.
func TestByWordsAtBounds(t *testing.T) {
	chance := rand.New(rand.NewSource(8))
	pick := func(list []int) int { return list[chance.Intn(len(list))] }
	q := questions{orders: edges, steps: edges, tries: edges}
	for range 20 {
		x, w := inbox.New(), words{}
		counts := map[api.Errno]int{}
		for range 400 {
			r := request{pick(edges), pick(edges), pick(edges), chance.Intn(4) == 0, pick(edges)}
			counts[w.act(t, x, r)]++
		}
		w.want(t, x, q)
		w.want(t, restored(t, x.List()...), q)
		if counts[api.OK] < 50 || counts[api.ErrState] < 50 {
			t.Errorf("of the requests %d were kept, %d refused", counts[api.OK], counts[api.ErrState])
		}
	}
}

// TestRestoreByWords holds P8.1 at all lists of two entries whose numbers lie around 0 and at the bounds of an int.
func TestRestoreByWords(t *testing.T) {
	var entries []inbox.Entry
	places := []int{edges[0], -1, 0, 1, edges[len(edges)-1]}
	for _, order := range places {
		for _, step := range places {
			for _, try := range []int{-1, 0, 1} {
				for _, code := range []int{-1, 0, 1} {
					entries = append(entries, inbox.Entry{Order: order, Step: step, Try: try, Code: code}, inbox.Entry{Order: order, Step: step, Try: try, Code: code, Barred: true})
				}
			}
		}
	}
	good := func(e inbox.Entry) bool { return e.Try == 1 || e.Try == 0 && e.Code == 0 && e.Barred }
	counts := map[bool]int{}
	for _, a := range entries {
		for _, b := range entries {
			rise := a.Order < b.Order || a.Order == b.Order && a.Step < b.Step
			fine := good(a) && good(b) && rise
			counts[fine]++
			if fine {
				restored(t, a, b)
			} else {
				wantNotRestored(t, a, b)
			}
		}
	}
	if counts[true] < 1000 || counts[false] < 1000 {
		t.Errorf("of the lists %d are an inbox's, %d aren't", counts[true], counts[false])
	}
}
