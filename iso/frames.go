package iso

import (
	"iter"

	"swipe/api"
)

// sizeBytes: the bytes ahead of a frame that say how long it is.
const sizeBytes = 2

// frames goes through the frames that stand whole at the front of a text; with each comes the text behind it.
func frames(text string) iter.Seq2[string, string] {
	return func(yield func(frame, behind string) bool) {
		for rest := text; whole(rest); {
			end := sizeBytes + size(rest)
			frame := rest[sizeBytes:end]
			rest = rest[end:]
			if !yield(frame, rest) {
				return
			}
		}
	}
}

// whole tells whether a frame stands whole at the front of a text.
func whole(text string) bool {
	return sized(text) && !broken(text) && len(text) >= sizeBytes+size(text)
}

// broken tells whether a text begins with the number of a frame that may not be.
func broken(text string) bool {
	return sized(text) && (size(text) < 1 || size(text) > api.MaxFrame)
}

func sized(text string) bool { return len(text) >= sizeBytes }

func size(text string) int { return int(text[0])<<8 | int(text[1]) }
