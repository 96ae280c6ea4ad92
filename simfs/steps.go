package simfs

import (
	"daybook/api"
)

// Create makes an empty file.
func (f *FS) Create(name string) api.Errno {
	if bad := f.barred(name); bad != api.OK {
		return bad
	}
	if _, there := f.files[name]; there {
		return api.ErrExists
	}
	if len(f.files) >= api.MaxFiles {
		return api.ErrFiles
	}
	if bad := f.step(); bad != api.OK {
		return bad
	}
	f.put(name, file{})
	return api.OK
}

// Append puts bytes behind a file.
func (f *FS) Append(name string, b []byte) api.Errno {
	x, bad := f.find(name)
	if bad != api.OK {
		return bad
	}
	if len(b) > f.Free() {
		return api.ErrFull
	}
	x.data = append(x.data, b...)
	f.put(name, x) // ahead of the step: the bytes stand there even if the power fails in its midst
	return f.step()
}

// Sync makes a file safe.
func (f *FS) Sync(name string) api.Errno {
	x, bad := f.find(name)
	if bad != api.OK {
		return bad
	}
	if bad := f.step(); bad != api.OK {
		return bad
	}
	x.safe = len(x.data)
	f.put(name, x)
	return api.OK
}

// Rename gives a file another name; a file that had it is gone.
func (f *FS) Rename(from, to string) api.Errno {
	if bad := f.barred(from, to); bad != api.OK {
		return bad
	}
	x, bad := f.find(from)
	if bad != api.OK {
		return bad
	}
	if bad := f.step(); bad != api.OK {
		return bad
	}
	delete(f.files, from)
	f.put(to, x) // behind the delete: where both names are the same the file stays
	return api.OK
}

// Remove takes a file away.
func (f *FS) Remove(name string) api.Errno {
	if _, bad := f.find(name); bad != api.OK {
		return bad
	}
	if bad := f.step(); bad != api.OK {
		return bad
	}
	delete(f.files, name)
	return api.OK
}

// Cut leaves the first n bytes of a file.
func (f *FS) Cut(name string, n int) api.Errno {
	x, bad := f.find(name)
	if bad != api.OK {
		return bad
	}
	if n < 0 || n > len(x.data) {
		return api.ErrArg
	}
	if bad := f.step(); bad != api.OK {
		return bad
	}
	f.put(name, x.first(n))
	return api.OK
}

// first is the first n bytes of a file; they have no room behind them, so that what is appended later goes to new memory and not over what was cut off.
func (x file) first(n int) file {
	return file{data: x.data[:n:n], safe: min(x.safe, n)}
}

// Fuse lets the power fail in the midst of the n-th step from now on; below 1: it doesn't fail by itself.
func (f *FS) Fuse(n int) {
	if f != nil {
		f.fuse = max(n, 0)
	}
}

// step counts a step that nothing bars, and burns the fuse by it; with ErrDown the power has failed in its midst.
func (f *FS) step() api.Errno {
	f.off = f.fuse == 1
	f.fuse = max(f.fuse-1, 0)
	if f.off {
		return api.ErrDown
	}
	f.steps++
	return api.OK
}

// Restart is a loss of power, if it isn't off already, and the power coming back: the i-th file by name keeps what is safe and keep[i] bytes behind it.
func (f *FS) Restart(keep []int) {
	if f == nil {
		return
	}
	for i, name := range f.sorted() {
		more := 0
		if i < len(keep) {
			more = keep[i]
		}
		f.put(name, f.files[name].survivor(more))
	}
	f.off, f.fuse = false, 0
}

// survivor is what a loss of power leaves of a file: what is safe, and at most so many bytes more.
func (x file) survivor(more int) file {
	more = min(max(more, 0), len(x.data)-x.safe) // ahead of the sum, which the greatest numbers would overflow
	left := x.first(x.safe + more)
	left.safe = len(left.data)
	return left
}
