package swipe

import (
	"swipe/api"
	"swipe/iso"
)

// line: what is kept of a connection.
type line struct {
	waiting string // the beginning of a frame whose end has not come yet
	closed  bool
}

// take tells the frames that are whole now that these bytes came (P7).
func (n *line) take(data string) []string {
	if n.closed {
		return nil
	}
	frames, rest, broken := iso.Cut(n.waiting + data)
	if broken {
		rest = "" // nobody looks at it again
	}
	n.waiting, n.closed = rest, broken
	return frames
}

func connected(conn int) bool { return conn >= 0 && conn < api.MaxConns }

func stray(c api.Chunk) bool { return !connected(c.Conn) }
