package script

import (
	"strconv"

	"auspex/api"
)

// field is what a line of a plan tells: its name, and how the words behind that are read and written.
type field struct {
	name  string
	read  func(words []string) bool
	write func() []string
}

// fields are a plan's lines, in order.
func fields(p *api.Plan) []field {
	c := &p.Conf
	return []field{
		single("mode", &c.Mode, readMode, writeMode),
		single("width", &c.Width, readNumber, strconv.Itoa),
		single("rob", &c.Rob, readNumber, strconv.Itoa),
		single("queue", &c.Queue, readNumber, strconv.Itoa),
		single("stores", &c.Stores, readNumber, strconv.Itoa),
		single("slots", &c.Slots, readNumber, strconv.Itoa),
		single("sets", &c.Sets, readNumber, strconv.Itoa),
		single("ways", &c.Ways, readNumber, strconv.Itoa),
		single("guess", &c.Tables, readTables, writeTables),
		many("lat", &c.Lat, readNumber, strconv.Itoa),
		many("tape", &c.Tape, readWord, writeWord),
		many("prog", &p.Prog, readWord, writeWord),
		single("mem", &p.Mem, readBytes, writeBytes),
		single("cycles", &p.Cycles, readNumber, strconv.Itoa),
	}
}

// single is a line of one word, many one of any number of them.
func single[T any](name string, to *T, read func(string) (T, bool), write func(T) string) field {
	return field{
		name: name,
		read: func(words []string) bool {
			parts, ok := readAll(words, read)
			if !ok || len(parts) != 1 {
				return false
			}
			*to = parts[0]
			return true
		},
		write: func() []string { return []string{write(*to)} },
	}
}

func many[T any](name string, to *[]T, read func(string) (T, bool), write func(T) string) field {
	return field{
		name: name,
		read: func(words []string) bool {
			parts, ok := readAll(words, read)
			*to = parts
			return ok
		},
		write: func() []string {
			var words []string
			for _, part := range *to {
				words = append(words, write(part))
			}
			return words
		},
	}
}

// readAll reads each word; false, if one is none.
func readAll[T any](words []string, read func(string) (T, bool)) ([]T, bool) {
	var parts []T
	for _, w := range words {
		part, ok := read(w)
		if !ok {
			return nil, false
		}
		parts = append(parts, part)
	}
	return parts, true
}
