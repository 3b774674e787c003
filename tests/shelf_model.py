"""What the files of a shelf should be, told from the records alone, for the tests."""

from loghall.rows import row_of

DAY = 86400


def model_files(records, most, keep):
    """The lists of pairs in the files, the oldest first and log last, when all records are written."""
    files = []
    for number, record in enumerate(records, start=1):
        with_it = (files[-1] if files else []) + [(number, record)]
        is_one_day = len({one[0] // DAY for place, one in with_it}) == 1
        if len(with_it) == 1 or (len(model_text(with_it)) <= most and is_one_day):
            files[-1:] = [with_it]
        else:
            files.append([(number, record)])
    return files[-(keep + 1):]


def model_text(pairs):
    return "".join(row_of(number, record) + "\n" for number, record in pairs)


def model_texts(records, most, keep):
    """The texts of the files by their names."""
    texts = {}
    for turned, pairs in enumerate(reversed(model_files(records, most, keep))):
        texts["log" if turned == 0 else "log." + str(turned)] = model_text(pairs)
    return texts


def model_kept(records, most, keep):
    """What kept_rows should tell."""
    return tuple(pair for pairs in model_files(records, most, keep) for pair in pairs)


def texts_of(disk):
    return {name: disk.text(name) for name in disk.files()}
