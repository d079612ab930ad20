package pack

import "tabula/api"

// failure is what a reader is left by: what is wrong, and where.
type failure struct {
	at  int
	err api.Errno
}

// reader takes what it reads from the front; texts are those of the dictionary.
type reader struct {
	rest  string
	at    int
	texts []string
}

// taken is what is read; or what reading was left by.
func taken[T any](read func() T) (x T, wrong failure) {
	defer func() {
		left := recover()
		f, ok := left.(failure)
		if left != nil && !ok {
			panic(left)
		}
		wrong = f
	}()
	return read(), failure{}
}

func (r *reader) take(size int) string {
	if size > len(r.rest) {
		panic(failure{r.at + len(r.rest), api.ErrShort})
	}
	s := r.rest[:size]
	r.rest, r.at = r.rest[size:], r.at+size
	return s
}

func (r *reader) number(size int) int {
	n := 0
	for _, b := range []byte(r.take(size)) {
		n = n<<8 | int(b)
	}
	return n
}

// many are so many, read one behind the other.
func many[T any](count int, read func() T) []T {
	var list []T
	for range count {
		list = append(list, read())
	}
	return list
}

// small are numbers of one byte each.
func (r *reader) small(count int) []int {
	return many(count, func() int { return r.number(1) })
}

func (r *reader) text() string {
	n := r.number(2)
	if n >= len(r.texts) {
		panic(failure{err: api.ErrPack})
	}
	return r.texts[n]
}

// must takes a byte that has to be that one.
func (r *reader) must(b byte) {
	if at := r.at; r.number(1) != int(b) {
		panic(failure{at, api.ErrPack})
	}
}

// sections are the bodies of all sections of a file.
func sections(s string) []string {
	r := &reader{rest: s}
	for i := range len(head) {
		r.must(head[i])
	}
	var bodies []string
	for number := byte(1); number <= 5; number++ {
		r.must(number)
		bodies = append(bodies, r.body())
	}
	if r.rest != "" {
		panic(failure{r.at, api.ErrPack})
	}
	return bodies
}

// body is that of a section, of which the sum has to be there, too, ahead of being another one.
func (r *reader) body() string {
	body := r.take(r.number(lengthBytes))
	if at := r.at; r.number(sumBytes) != Sum(body) {
		panic(failure{at, api.ErrSum})
	}
	return body
}
