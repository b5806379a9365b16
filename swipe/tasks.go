package swipe

import (
	"strings"
	"sync"

	"swipe/api"
	"swipe/iso"
)

// task: a frame that came, and what becomes of it.
type task struct {
	conn    int
	request api.Message
	account *account // nil, unless a worker is to answer
	answer  string   // as a frame
	spent   int      // less than 0, if it was taken back
}

// receive tells what is to be done, in the order in which it came. What hangs on no other frame is answered already.
func (s *Switch) receive(l []api.Chunk) []task {
	var tasks []task
	for _, chunk := range l {
		for _, frame := range s.lines[chunk.Conn].take(chunk.Data) {
			tasks = append(tasks, s.look(chunk.Conn, frame))
		}
	}
	return tasks
}

func (s *Switch) look(conn int, frame string) task {
	m, why := iso.Decode(frame)
	t := task{conn: conn, request: m}
	if why != "" {
		t.answer = refusal(why)
		return t
	}
	switch m.Kind {
	case askSpend, askBack, tellBack:
		s.find(&t)
	case askEcho:
		t.answer = echo(m)
	case askTotal:
		// What was spent ahead of it is known only when the workers are done.
	default:
		t.answer = refusal(codeAnswer)
	}
	return t
}

// find finds the account that a task is about, or answers that there is none.
func (s *Switch) find(t *task) {
	account, code := s.lookUp(t.request.Pan)
	if code != "" {
		t.answer = ruling(t.request, verdict{amount: t.request.Amount, code: code})
		return
	}
	t.account = account
}

// lookUp tells the account of a number; or the code that says why there is none.
func (s *Switch) lookUp(pan string) (*account, string) {
	if !s.routed(pan) {
		return nil, codeNoRoute
	}
	a, ok := s.accounts[pan]
	if !ok {
		return nil, codeNoCard
	}
	return a, ""
}

func (s *Switch) routed(pan string) bool {
	for _, route := range s.routes {
		if strings.HasPrefix(pan, route) {
			return true
		}
	}
	return false
}

// work has the workers answer, each what is asked of its cards.
func (s *Switch) work(tasks []task) {
	var group sync.WaitGroup
	for _, share := range s.shareOut(tasks) {
		group.Go(func() {
			for _, t := range share {
				t.do()
			}
		})
	}
	group.Wait()
}

// shareOut tells the tasks of each worker. All that ask of one card are in one
// share, in the order in which they came, so that no worker hangs on another.
func (s *Switch) shareOut(tasks []task) [][]*task {
	shares := make([][]*task, s.workers)
	for k := range tasks {
		t := &tasks[k]
		if t.account != nil {
			shares[t.account.worker] = append(shares[t.account.worker], t)
		}
	}
	return shares
}

// do answers what is asked of a card.
func (t *task) do() {
	v, spent := t.account.settle(t.request)
	t.answer, t.spent = ruling(t.request, v), spent
}

// reply tells the answers of each connection. It goes through the tasks in order, so that each total has just what was spent ahead of it.
func (s *Switch) reply(tasks []task) []string {
	var texts [api.MaxConns]strings.Builder
	for _, t := range tasks {
		s.total += t.spent
		if t.request.Kind == askTotal {
			t.answer = telling(t.request, s.total)
		}
		texts[t.conn].WriteString(t.answer)
	}
	answers := make([]string, api.MaxConns)
	for conn := range answers {
		answers[conn] = texts[conn].String()
	}
	return answers
}
