package dump

import (
	"sync"

	"palimpsest/coding"
	"palimpsest/history"
	"palimpsest/sums"
)

// Telling is a dump that is told piece by piece. What was told is not kept.
type Telling struct {
	head []byte // until it is told
	rest []history.Entry
	sum  uint32 // of what was told
}

// Tell begins to tell a dump.
func Tell(d Dump) *Telling {
	return &Telling{head: headOf(d), rest: d.Entries}
}

func headOf(d Dump) []byte {
	head := []byte(magic)
	for _, n := range []int{d.Since, d.Upto, d.Floor, len(d.Entries)} {
		head = coding.AppendFour(head, uint32(n))
	}
	return head
}

// Next tells the next bytes of the dump, with at most so many versions, and
// whether the dump is told to its end with them.
func (t *Telling) Next(most int) (piece []byte, all bool) {
	piece, t.head = t.head, nil
	piece, count := appendFew(piece, t.rest, most)
	t.rest = t.rest[count:]
	t.sum = sums.More(t.sum, piece)
	if len(t.rest) > 0 {
		return piece, false
	}
	return coding.AppendFour(piece, t.sum), true
}

// appendFew writes the first versions, at most so many, and tells how many. It
// waits for the sender, which finds nobody who takes another version then: so it
// sees the one way out, and has ended when this is over.
func appendFew(to []byte, entries []history.Entry, most int) ([]byte, int) {
	sent := make(chan history.Entry)
	done := make(chan struct{})
	var sender sync.WaitGroup
	sender.Add(1)
	go func() {
		defer sender.Done()
		send(sent, entries, done)
	}()
	count := 0
	for count < most {
		e, more := <-sent
		if !more {
			break
		}
		to = appendEntry(to, e)
		count++
	}
	close(done)
	sender.Wait()
	return to, count
}

// send sends versions until there are no more, or no more are wanted.
func send(to chan<- history.Entry, entries []history.Entry, done <-chan struct{}) {
	defer close(to)
	for _, e := range entries {
		select {
		case to <- e:
		case <-done:
			return
		}
	}
}

func appendEntry(to []byte, e history.Entry) []byte {
	to = coding.AppendText(to, e.Key)
	to = coding.AppendFour(to, uint32(e.Moment))
	return coding.AppendVersion(to, e.Version)
}
